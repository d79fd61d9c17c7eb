/-
  The law XmapKeeps, walked.
-/
import Derived.Test.YtalhlopjaijhcaaGreatLwK
namespace Go.Proofs.YtalhlopjaijhcaaGreat
open Go.RowKit

attribute [local go_sem] Oper.semAt_some

theorem lit4_WA (W : World) (x y z u : Nat) (t : TypeId) : WA (W.alloc (.cells #[.int .u64 (x : Int), .int .u64 (y : Int), .int .u64 (z : Int), .int .u64 (u : Int)] t)) (some ⟨W.heap.size, 0, none⟩) [x, y, z, u] := .inr ⟨_, 0, rfl, fun j k hj => by
  rw [World.cell?_alloc_at _ _ _ _ rfl]
  match j, hj with
  | 0, hj => simp at hj; subst hj; rfl
  | 1, hj => simp at hj; subst hj; rfl
  | 2, hj => simp at hj; subst hj; rfl
  | 3, hj => simp at hj; subst hj; rfl
  | j + 4, hj => simp at hj⟩
theorem WA_take {W : World} {a : Option Addr} {l : List Nat} (h : WA W a l) (n : Nat) : WA W a (l.take n) := by
  rcases h with rfl | ⟨b, off, rfl, h⟩
  · exact .inl (by simp)
  · refine .inr ⟨b, off, rfl, fun j k hj => h j k ?_⟩
    rw [List.getElem?_take] at hj
    split at hj
    · exact hj
    · cases hj
set_option maxRecDepth 100000 in
set_option maxHeartbeats 4000000 in
theorem keeps_law (r : Int) (k : Nat) (hk : k < 18446744073709551616) (a : Option Addr) (cap : Nat) (ws : List Nat) (ma : Option Addr) (mcap : Nat) (ms : List Nat) (w : World) (hW : WA w a ws) (hcap : ws.length ≤ cap) (_ : cap ≤ 9223372036854775807) (hM : WA w ma ms) (_ : ms.length ≤ 9223372036854775807) (hmw : ∀ x ∈ ms, x < 18446744073709551616) :
    Calls Tryz.prog 5 #[.int .i64 r, .int .u64 (k : Int), .slice a ws.length cap, .slice ma ms.length mcap] w fun e w' => e = .returned (.bool true) ∧ Ch [] w w' := by
  have u0 : 0 ≤ IntKind.u64.wrap r ∧ IntKind.u64.wrap r < 18446744073709551616 := by rw [IntKind.wrap_u64]; omega
  generalize hg0 : IntKind.u64.wrap r = U0 at u0
  obtain ⟨u00, u01⟩ := u0
  obtain ⟨kd, hr0, hr1, hr2⟩ : ∃ n : Nat, 1 + U0 % 2 = (n : Int) ∧ 1 ≤ n ∧ n ≤ 2 := ⟨(1 + U0 % 2).toNat, by omega⟩
  have hkd : kd ≠ 0 := by omega
  have HN := Lib.hid (show Calls Tryz.prog 9 #[.int .i64 (kd : Int), .int .i64 8, .int .i64 4] w _ from ml_new (kind := kd) (n := 8) (wd := 4) (by omega) (by omega) (by omega) (Ch.refl [] w))
  obtain ⟨zs, hzs⟩ : ∃ zs, zs = ws.take 4 := ⟨_, rfl⟩
  obtain ⟨n, hn⟩ : ∃ n, n = zs.length := ⟨_, rfl⟩
  have hn1 : n = min 4 ws.length := by rw [hn, hzs, List.length_take]
  obtain ⟨len, hlen⟩ : ∃ len, len = ws.length := ⟨_, rfl⟩
  have HZ := Lib.hid (show WA w a zs by rw [hzs]; exact WA_take hW 4)
  have HM := Lib.hid hM
  have HMw := Lib.hid hmw
  have HNz := Lib.hid hn
  rw [← hlen] at hn1 hcap ⊢
  have hmin : ∀ (ts : Array TypeId) (t : TypeId) (w : World), (Builtin.min_ ts t #[.int .i64 (len : Int), .int .i64 4]).run Tryz.prog w = .ok (.int .i64 (n : Int)) w := fun ts t w => by
    have e : (if (4 : Int) < (len : Int) then (4 : Int) else (len : Int)) = (n : Int) := by split <;> omega
    rw [← e]
    simp [Builtin.min_, Builtin.min2]
  have hncap : n ≤ cap := by omega
  have hn4 : n ≤ 4 := by omega
  have hd0 : decide ((n : Int) < 0) = false := by simp
  clear hW hzs hn hlen hM hmw hn1
  obtain ⟨ml, hml2⟩ : ∃ ml, ml = ms.length := ⟨_, rfl⟩
  have HMl := Lib.hid hml2
  rw [← hml2]
  clear hml2
  go_enter Tryz.func5, Tryz.ntmps5
  go_wp2_with fail
  with_reducible refine HN.out.mono ?_
  rintro e w1 ⟨b, rfl, h1, -⟩
  have hP := h1.put 1 hk a cap zs (by rw [← HNz.out]; omega) (HZ.out.ch h1.c) (by omega)
  rw [new_put hkd (by omega) (.inr rfl) k zs (by rw [← HNz.out]; omega), ← HNz.out] at hP
  have HP := Lib.hid hP
  clear h1 HN hP
  go_wp2_with fail
  with_reducible refine HP.out.mono ?_
  rintro e w2 ⟨rfl, h2, hx2⟩
  obtain ⟨w3, hw3⟩ : ∃ w3, w3 = w2.alloc (.cells #[.int .i64 0, .int .i64 1, .int .i64 0, .int .i64 0, .bool false] 62) := ⟨_, rfl⟩
  have hc3 : Ch [] w2 w3 := by rw [hw3]; exact (Ch.refl [] w2).alloc _
  have HX3 := Lib.hid (show HB w3 w2.heap.size 62 (paC ⟨(0, 1), (0, 0), false, 0⟩) by rw [hw3]; exact HB.new w2 _ _)
  obtain ⟨X, hX⟩ : ∃ X, X = w2.heap.size := ⟨_, rfl⟩
  have HEX := Lib.hid (show b.Eh ≤ X by rw [hX]; exact h2.eh)
  obtain ⟨g1, g2, g3⟩ := new_gone (n := 8) (wd := 4) hkd (by omega) k zs
  have hD := (h2.quiet hc3).del hk
  rw [g1] at hD
  have hwd := new_gone_wd (n := 8) (wd := 4) hkd k zs
  obtain ⟨s2, hs2⟩ : ∃ s2, s2 = unlinkM (linkM (newM kd 8 4) ⟨k, valOf zs⟩) k := ⟨_, rfl⟩
  rw [← hs2] at hD g2 g3 hwd
  have HD := Lib.hid hD
  have HK2 := Lib.hid g3
  have HT2 := Lib.hid (And.intro g2 hwd)
  have HW3 := Lib.hid hw3
  rw [← hX] at HX3
  have HXX := Lib.hid hX
  clear h2 hx2 HP hD hc3 g1 g2 g3 hwd hs2 hw3 hX
  go_wp2_with fail
  rw [← HW3.out, ← HXX.out]
  refine HD.out.mono ?_
  rintro e w4 ⟨rfl, h4, hx4⟩
  obtain ⟨w5, hw5⟩ : ∃ w5, w5 = w4.alloc (.cells #[.int .i64 0, .int .i64 1] 39) := ⟨_, rfl⟩
  have hc5 : Ch [] w4 w5 := by rw [hw5]; exact (Ch.refl [] w4).alloc _
  have hY5 : HB w5 w4.heap.size 39 #[.int .i64 0, .int .i64 1] := by rw [hw5]; exact HB.new w4 _ _
  have hX5 := (hx4.hb HX3.out HEX.out (by decide) (by decide)).ch hc5 (by simp)
  have hLi := (h4.quiet hc5).linked (0, 1)
  rw [HK2.out.linked] at hLi
  have HLi := Lib.hid hLi
  have HEY := Lib.hid (show b.Eh ≤ w4.heap.size from h4.eh)
  have HY5 := Lib.hid hY5
  have x0 := hX5.c 0 rfl
  have x1 := hX5.c 1 rfl
  have y0 := hY5.c 0 rfl
  have y1 := hY5.c 1 rfl
  have HW5 := Lib.hid hw5
  rw [hw5] at x0 x1 y0 y1
  clear h4 hx4 hc5 hY5 hX5 hLi hw5 HD HX3 HW3
  go_wp2_with fail
  rw [← HW5.out]
  refine HLi.out.mono ?_
  rintro e w6 ⟨rfl, h6, hx6⟩
  have HY6 := Lib.hid (hx6.hb HY5.out HEY.out (by decide) (by decide))
  have hF := h6.find hk (by omega)
  rw [show findM s2 k = s2 by unfold findM; rw [HT2.out.1]; rfl, HT2.out.1, show lookE ([] : List (Ent (Int × Int))) k = 4 from rfl, show lookH ([] : List (Ent (Int × Int))) k = (0, 0) from rfl] at hF
  have HF := Lib.hid hF
  obtain ⟨Y, hYY⟩ : ∃ Y, Y = w4.heap.size := ⟨_, rfl⟩
  rw [← hYY] at HY6 HEY
  have HYY := Lib.hid hYY
  clear h6 hx6 hF HLi HY5 x0 x1 y0 y1 hYY
  go_wp2_with fail
  rw [← HYY.out]
  refine HF.out.mono ?_
  rintro e w7 ⟨rfl, h7, hx7⟩
  have HY7 := Lib.hid ((hx7.hb HY6.out HEY.out (by decide) (by decide)).alloc (.cells #[.int .i64 0, .int .i64 0] 39))
  have H7 := Lib.hid (h7.quiet ((Ch.refl [] w7).alloc (.cells #[.int .i64 0, .int .i64 0] 39)))
  clear h7 hx7 HF HY6
  go_wp2_with fail
  go_loopw [17] (fun iv wr => ∃ (i : Nat) (s : MS), i ≤ 8 ∧ iv = .int .i64 (i : Int) ∧ ML w wr b s (10 + i) ∧ Kp s (0, 1) ⟨k, valOf zs⟩ ∧ s.wd = 4 ∧ HB wr Y 39 #[.int .i64 0, .int .i64 1]) (fun iv _ => 8 - (intOf iv).toNat)
  case atStart => exact ⟨0, s2, by omega, rfl, H7.out, HK2.out, HT2.out.2, HY7.out⟩
  case round =>
    obtain ⟨i, s, hi8, rfl, h, hkp, hwd, hy⟩ := hrel
    have HI := Lib.hid hi8
    have hw1 : IntKind.i64.wrap ((i : Int) + 1) = (i : Int) + 1 := by rw [IntWalk.i64_in _ (by omega)]
    by_cases h1 : i < ml
    · have hl1 : (i : Int) < (ml : Int) := by omega
      by_cases h2 : i < 8
      · have hl2 : (i : Int) < 8 := by omega
        obtain ⟨z, hz⟩ : ∃ z, ms[i]? = some z := ⟨_, List.getElem?_eq_getElem (by rw [← HMl.out]; exact h1)⟩
        have hzw := HMw.out z (List.mem_of_getElem? hz)
        rcases HM.out.ch h.c with h0 | ⟨mb, mo, rfl, hmc⟩
        · exfalso; rw [h0] at hz; simp at hz
        · have c := hmc i z hz
          have HP := Lib.hid ((h.quiet ((Ch.refl [] wr).alloc (.cells #[.int .u64 1, .int .u64 2, .int .u64 3, .int .u64 4] 40))).put 0 hzw (some ⟨wr.heap.size, 0, none⟩) 4 [1, 2, 3, 4] (by decide) (lit4_WA wr 1 2 3 4 _) (by omega))
          have HWF := Lib.hid h.m.wf
          have HKp := Lib.hid (And.intro hkp hwd)
          have HYw := Lib.hid (hy.alloc (.cells #[.int .u64 1, .int .u64 2, .int .u64 3, .int .u64 4] 40))
          clear h hkp hwd hy hz hmc hi8
          go_wp2_with fail
          refine HP.out.mono ?_
          rintro e w8 ⟨rfl, h8, hx8⟩
          have H8 := Lib.hid h8
          have HY8 := Lib.hid (hx8.hb HYw.out HEY.out (by decide) (by decide))
          clear h8 hx8 HP HYw
          go_wp2
          go_roundw
          case rel => exact ⟨i + 1, _, by omega, by go_num, H8.out, HKp.out.1.put HWF.out 0 z [1, 2, 3, 4], (put_wd HWF.out 0 z [1, 2, 3, 4]).trans HKp.out.2, HY8.out⟩
          case measure => simp [intOf]; omega
      · have hl2 : ¬ ((i : Int) < 8) := by omega
        have H0 := Lib.hid (h.mono (show 10 + i ≤ 20 by omega))
        have HKp := Lib.hid (And.intro hkp hwd)
        have HY0 := Lib.hid hy
        clear h hkp hwd hy hi8 HI hw1
        go_wp2_with fail
        clear h1 hl1
        go_loopw [18] (fun iv wr => ∃ j : Nat, j ≤ 4 ∧ iv = .int .i64 (j : Int) ∧ ML w wr b s 20 ∧ HB wr Y 39 #[.int .i64 0, .int .i64 1]) (fun iv _ => 4 - (intOf iv).toNat)
        case atStart => exact ⟨0, by omega, rfl, H0.out, HY0.out⟩
        case round =>
          clear H0 HY0
          obtain ⟨j, hj4, rfl, h, hy⟩ := hrel
          have hw2 : IntKind.i64.wrap ((j : Int) + 1) = (j : Int) + 1 := by rw [IntWalk.i64_in _ (by omega)]
          by_cases hj : j < 4
          · have hjl : (j : Int) < 4 := by omega
            have hLd := h.load (0, 1) (j : Int)
            rw [HKp.out.1.load (by rw [HKp.out.2]; exact hj)] at hLd
            obtain ⟨z, hz⟩ : ∃ z, z = valOf zs j := ⟨_, rfl⟩
            rw [show El.v ⟨k, valOf zs⟩ j = z from hz.symm] at hLd
            have HLd := Lib.hid hLd
            have y0 := hy.c 0 rfl
            have y1 := hy.c 1 rfl
            have HYj := Lib.hid hy
            have hzz : ((z : Int) != (z : Int)) = false := by simp
            by_cases hjn : j < n
            · have hjn' : (j : Int) < (n : Int) := by omega
              have hj0 : (0 : Int) ≤ (j : Int) := by omega
              have hzj : zs[j]? = some z := by rw [hz]; unfold valOf; rw [List.getD, List.getElem?_eq_getElem (by rw [← HNz.out]; exact hjn)]; rfl
              rcases HZ.out.ch h.c with h0 | ⟨zb, zo, rfl, hzc⟩
              · exfalso; rw [h0] at hzj; simp at hzj
              · have c := hzc j z hzj
                clear h hy hLd hz hzj hzc hj4
                go_wp2_with fail
                refine HLd.out.mono ?_
                rintro e w9 ⟨rfl, h9, hx9⟩
                have H9 := Lib.hid h9
                have HY9 := Lib.hid (hx9.hb HYj.out HEY.out (by decide) (by decide))
                clear h9 hx9 HLd y0 y1 c
                go_wp2
                go_roundw
                case rel => exact ⟨j + 1, by omega, by go_num, H9.out, HY9.out⟩
                case measure => simp [intOf]; omega
            · have hjn' : ¬ ((j : Int) < (n : Int)) := by omega
              have hz0 : z = 0 := by rw [hz]; unfold valOf; rw [List.getD, List.getElem?_eq_none (by rw [← HNz.out]; omega)]; rfl
              subst hz0
              clear h hy hLd hz hj4
              go_wp2_with fail
              refine HLd.out.mono ?_
              rintro e w9 ⟨rfl, h9, hx9⟩
              have H9 := Lib.hid h9
              have HY9 := Lib.hid (hx9.hb HYj.out HEY.out (by decide) (by decide))
              clear h9 hx9 HLd y0 y1
              go_wp2
              go_roundw
              case rel => exact ⟨j + 1, by omega, by go_num, H9.out, HY9.out⟩
              case measure => simp [intOf]; omega
          · have hjl : ¬ ((j : Int) < 4) := by omega
            have y0 := hy.c 0 rfl
            have y1 := hy.c 1 rfl
            have hF := h.free (0, 1)
            rw [HKp.out.1.free.1] at hF
            have hst3 := HKp.out.1.free.2
            obtain ⟨s3, hs3⟩ : ∃ s3, s3 = freeM s (0, 1) := ⟨_, rfl⟩
            rw [← hs3] at hF hst3
            have HSt := Lib.hid hst3
            have HF := Lib.hid hF
            have HY8 := Lib.hid hy
            clear h hy hF hst3 hs3
            go_wp2_with fail
            refine HF.out.mono ?_
            rintro e w9 ⟨rfl, h9, hx9⟩
            have hy9 := hx9.hb HY8.out HEY.out (by decide) (by decide)
            clear y0 y1
            have y0 := hy9.c 0 rfl
            have y1 := hy9.c 1 rfl
            have hF2 := h9.free (0, 1)
            rw [HSt.out.free] at hF2
            have HF2 := Lib.hid hF2
            have HY9 := Lib.hid hy9
            clear h9 hx9 hy9 hF2 HF HY8
            go_wp2_with fail
            refine HF2.out.mono ?_
            rintro e w10 ⟨rfl, h10, hx10⟩
            have HY10 := Lib.hid (hx10.hb HY9.out HEY.out (by decide) (by decide))
            have H10 := Lib.hid h10
            clear h10 hx10 HF2 HY9 y0 y1
            go_wp2_with fail
            go_loopw [22] (fun iv wr => ∃ (i : Nat) (s : MS), i ≤ 8 ∧ iv = .int .i64 (i : Int) ∧ ML w wr b s (20 + i) ∧ Stl s (0, 1) ∧ HB wr Y 39 #[.int .i64 0, .int .i64 1]) (fun iv _ => 8 - (intOf iv).toNat)
            case atStart => exact ⟨0, s3, by omega, rfl, H10.out, HSt.out, HY10.out⟩
            case round =>
              clear HSt HY10 H10
              obtain ⟨i, s, hi8, rfl, h, hst, hy⟩ := hrel
              have hw1 : IntKind.i64.wrap ((i : Int) + 1) = (i : Int) + 1 := by rw [IntWalk.i64_in _ (by omega)]
              by_cases h1 : i < ml
              · have hl1 : (i : Int) < (ml : Int) := by omega
                by_cases h2 : i < 8
                · have hl2 : (i : Int) < 8 := by omega
                  obtain ⟨z, hz⟩ : ∃ z, ms[i]? = some z := ⟨_, List.getElem?_eq_getElem (by rw [← HMl.out]; exact h1)⟩
                  have hzw := HMw.out z (List.mem_of_getElem? hz)
                  rcases HM.out.ch h.c with h0 | ⟨mb, mo, rfl, hmc⟩
                  · exfalso; rw [h0] at hz; simp at hz
                  · have c := hmc i z hz
                    have HP := Lib.hid ((h.quiet ((Ch.refl [] wr).alloc (.cells #[.int .u64 5] 40))).put 0 hzw (some ⟨wr.heap.size, 0, none⟩) 1 [5] (by decide) (lit1_WA wr 5 _) (by omega))
                    have HWF := Lib.hid h.m.wf
                    have HKp := Lib.hid hst
                    have HYw := Lib.hid (hy.alloc (.cells #[.int .u64 5] 40))
                    clear h hst hy hz hmc hi8
                    go_wp2_with fail
                    refine HP.out.mono ?_
                    rintro e w8 ⟨rfl, h8, hx8⟩
                    have H8 := Lib.hid h8
                    have HY8 := Lib.hid (hx8.hb HYw.out HEY.out (by decide) (by decide))
                    clear h8 hx8 HP HYw
                    go_wp2
                    go_roundw
                    case rel => exact ⟨i + 1, _, by omega, by go_num, H8.out, HKp.out.put HWF.out 0 z [5], HY8.out⟩
                    case measure => simp [intOf]; omega
                · have hl2 : ¬ ((i : Int) < 8) := by omega
                  have y0 := hy.c 0 rfl
                  have y1 := hy.c 1 rfl
                  have hLd := h.load (0, 1) 0
                  rw [hst.load] at hLd
                  have HLd := Lib.hid hLd
                  have HY0 := Lib.hid hy
                  have HSt := Lib.hid hst
                  clear h hst hy hLd
                  go_wp2_with fail
                  refine HLd.out.mono ?_
                  rintro e w20 ⟨rfl, h20, hx20⟩
                  have HY20 := Lib.hid (hx20.hb HY0.out HEY.out (by decide) (by decide))
                  have H20 := Lib.hid h20
                  have HKn := Lib.hid (known_any w20)
                  clear h20 hx20 HLd y0 y1
                  go_wp2_with fail
                  refine HKn.out.mono ?_
                  rintro e w21 ⟨rfl, hc21⟩
                  have h21 := H20.out.quiet hc21
                  have hy21 := HY20.out.ch hc21 (by simp)
                  have y0 := hy21.c 0 rfl
                  have y1 := hy21.c 1 rfl
                  have hS := h21.store (0, 1) 0 9
                  rw [HSt.out.store] at hS
                  have HS := Lib.hid hS
                  have HY21 := Lib.hid hy21
                  clear hc21 h21 hy21 hS HKn H20 HY20
                  go_wp2_with fail
                  refine HS.out.mono ?_
                  rintro e w22 ⟨rfl, h22, hx22⟩
                  have hy22 := hx22.hb HY21.out HEY.out (by decide) (by decide)
                  have hL := h22.linked (0, 1)
                  rw [HSt.out.linked] at hL
                  have HL := Lib.hid hL
                  clear y0 y1
                  have y0 := hy22.c 0 rfl
                  have y1 := hy22.c 1 rfl
                  clear h22 hx22 hy22 hL HS
                  go_wp2_with fail
                  refine HL.out.mono ?_
                  rintro e w23 ⟨rfl, h23, -⟩
                  have HC := Lib.hid h23.c
                  clear h23 HL y0 y1
                  go_wp2
                  go_ret
                  exact ⟨rfl, HC.out⟩
              · have hl1 : ¬ ((i : Int) < (ml : Int)) := by omega
                have y0 := hy.c 0 rfl
                have y1 := hy.c 1 rfl
                have hLd := h.load (0, 1) 0
                rw [hst.load] at hLd
                have HLd := Lib.hid hLd
                have HY0 := Lib.hid hy
                have HSt := Lib.hid hst
                clear h hst hy hLd
                go_wp2_with fail
                refine HLd.out.mono ?_
                rintro e w20 ⟨rfl, h20, hx20⟩
                have HY20 := Lib.hid (hx20.hb HY0.out HEY.out (by decide) (by decide))
                have H20 := Lib.hid h20
                have HKn := Lib.hid (known_any w20)
                clear h20 hx20 HLd y0 y1
                go_wp2_with fail
                refine HKn.out.mono ?_
                rintro e w21 ⟨rfl, hc21⟩
                have h21 := H20.out.quiet hc21
                have hy21 := HY20.out.ch hc21 (by simp)
                have y0 := hy21.c 0 rfl
                have y1 := hy21.c 1 rfl
                have hS := h21.store (0, 1) 0 9
                rw [HSt.out.store] at hS
                have HS := Lib.hid hS
                have HY21 := Lib.hid hy21
                clear hc21 h21 hy21 hS HKn H20 HY20
                go_wp2_with fail
                refine HS.out.mono ?_
                rintro e w22 ⟨rfl, h22, hx22⟩
                have hy22 := hx22.hb HY21.out HEY.out (by decide) (by decide)
                have hL := h22.linked (0, 1)
                rw [HSt.out.linked] at hL
                have HL := Lib.hid hL
                clear y0 y1
                have y0 := hy22.c 0 rfl
                have y1 := hy22.c 1 rfl
                clear h22 hx22 hy22 hL HS
                go_wp2_with fail
                refine HL.out.mono ?_
                rintro e w23 ⟨rfl, h23, -⟩
                have HC := Lib.hid h23.c
                clear h23 HL y0 y1
                go_wp2
                go_ret
                exact ⟨rfl, HC.out⟩
    · have hl1 : ¬ ((i : Int) < (ml : Int)) := by omega
      have H0 := Lib.hid (h.mono (show 10 + i ≤ 20 by omega))
      have HKp := Lib.hid (And.intro hkp hwd)
      have HY0 := Lib.hid hy
      clear h hkp hwd hy hi8 HI hw1
      go_wp2_with fail
      clear h1 hl1
      go_loopw [18] (fun iv wr => ∃ j : Nat, j ≤ 4 ∧ iv = .int .i64 (j : Int) ∧ ML w wr b s 20 ∧ HB wr Y 39 #[.int .i64 0, .int .i64 1]) (fun iv _ => 4 - (intOf iv).toNat)
      case atStart => exact ⟨0, by omega, rfl, H0.out, HY0.out⟩
      case round =>
        clear H0 HY0
        obtain ⟨j, hj4, rfl, h, hy⟩ := hrel
        have hw2 : IntKind.i64.wrap ((j : Int) + 1) = (j : Int) + 1 := by rw [IntWalk.i64_in _ (by omega)]
        by_cases hj : j < 4
        · have hjl : (j : Int) < 4 := by omega
          have hLd := h.load (0, 1) (j : Int)
          rw [HKp.out.1.load (by rw [HKp.out.2]; exact hj)] at hLd
          obtain ⟨z, hz⟩ : ∃ z, z = valOf zs j := ⟨_, rfl⟩
          rw [show El.v ⟨k, valOf zs⟩ j = z from hz.symm] at hLd
          have HLd := Lib.hid hLd
          have y0 := hy.c 0 rfl
          have y1 := hy.c 1 rfl
          have HYj := Lib.hid hy
          have hzz : ((z : Int) != (z : Int)) = false := by simp
          by_cases hjn : j < n
          · have hjn' : (j : Int) < (n : Int) := by omega
            have hj0 : (0 : Int) ≤ (j : Int) := by omega
            have hzj : zs[j]? = some z := by rw [hz]; unfold valOf; rw [List.getD, List.getElem?_eq_getElem (by rw [← HNz.out]; exact hjn)]; rfl
            rcases HZ.out.ch h.c with h0 | ⟨zb, zo, rfl, hzc⟩
            · exfalso; rw [h0] at hzj; simp at hzj
            · have c := hzc j z hzj
              clear h hy hLd hz hzj hzc hj4
              go_wp2_with fail
              refine HLd.out.mono ?_
              rintro e w9 ⟨rfl, h9, hx9⟩
              have H9 := Lib.hid h9
              have HY9 := Lib.hid (hx9.hb HYj.out HEY.out (by decide) (by decide))
              clear h9 hx9 HLd y0 y1 c
              go_wp2
              go_roundw
              case rel => exact ⟨j + 1, by omega, by go_num, H9.out, HY9.out⟩
              case measure => simp [intOf]; omega
          · have hjn' : ¬ ((j : Int) < (n : Int)) := by omega
            have hz0 : z = 0 := by rw [hz]; unfold valOf; rw [List.getD, List.getElem?_eq_none (by rw [← HNz.out]; omega)]; rfl
            subst hz0
            clear h hy hLd hz hj4
            go_wp2_with fail
            refine HLd.out.mono ?_
            rintro e w9 ⟨rfl, h9, hx9⟩
            have H9 := Lib.hid h9
            have HY9 := Lib.hid (hx9.hb HYj.out HEY.out (by decide) (by decide))
            clear h9 hx9 HLd y0 y1
            go_wp2
            go_roundw
            case rel => exact ⟨j + 1, by omega, by go_num, H9.out, HY9.out⟩
            case measure => simp [intOf]; omega
        · have hjl : ¬ ((j : Int) < 4) := by omega
          have y0 := hy.c 0 rfl
          have y1 := hy.c 1 rfl
          have hF := h.free (0, 1)
          rw [HKp.out.1.free.1] at hF
          have hst3 := HKp.out.1.free.2
          obtain ⟨s3, hs3⟩ : ∃ s3, s3 = freeM s (0, 1) := ⟨_, rfl⟩
          rw [← hs3] at hF hst3
          have HSt := Lib.hid hst3
          have HF := Lib.hid hF
          have HY8 := Lib.hid hy
          clear h hy hF hst3 hs3
          go_wp2_with fail
          refine HF.out.mono ?_
          rintro e w9 ⟨rfl, h9, hx9⟩
          have hy9 := hx9.hb HY8.out HEY.out (by decide) (by decide)
          clear y0 y1
          have y0 := hy9.c 0 rfl
          have y1 := hy9.c 1 rfl
          have hF2 := h9.free (0, 1)
          rw [HSt.out.free] at hF2
          have HF2 := Lib.hid hF2
          have HY9 := Lib.hid hy9
          clear h9 hx9 hy9 hF2 HF HY8
          go_wp2_with fail
          refine HF2.out.mono ?_
          rintro e w10 ⟨rfl, h10, hx10⟩
          have HY10 := Lib.hid (hx10.hb HY9.out HEY.out (by decide) (by decide))
          have H10 := Lib.hid h10
          clear h10 hx10 HF2 HY9 y0 y1
          go_wp2_with fail
          go_loopw [22] (fun iv wr => ∃ (i : Nat) (s : MS), i ≤ 8 ∧ iv = .int .i64 (i : Int) ∧ ML w wr b s (20 + i) ∧ Stl s (0, 1) ∧ HB wr Y 39 #[.int .i64 0, .int .i64 1]) (fun iv _ => 8 - (intOf iv).toNat)
          case atStart => exact ⟨0, s3, by omega, rfl, H10.out, HSt.out, HY10.out⟩
          case round =>
            clear HSt HY10 H10
            obtain ⟨i, s, hi8, rfl, h, hst, hy⟩ := hrel
            have hw1 : IntKind.i64.wrap ((i : Int) + 1) = (i : Int) + 1 := by rw [IntWalk.i64_in _ (by omega)]
            by_cases h1 : i < ml
            · have hl1 : (i : Int) < (ml : Int) := by omega
              by_cases h2 : i < 8
              · have hl2 : (i : Int) < 8 := by omega
                obtain ⟨z, hz⟩ : ∃ z, ms[i]? = some z := ⟨_, List.getElem?_eq_getElem (by rw [← HMl.out]; exact h1)⟩
                have hzw := HMw.out z (List.mem_of_getElem? hz)
                rcases HM.out.ch h.c with h0 | ⟨mb, mo, rfl, hmc⟩
                · exfalso; rw [h0] at hz; simp at hz
                · have c := hmc i z hz
                  have HP := Lib.hid ((h.quiet ((Ch.refl [] wr).alloc (.cells #[.int .u64 5] 40))).put 0 hzw (some ⟨wr.heap.size, 0, none⟩) 1 [5] (by decide) (lit1_WA wr 5 _) (by omega))
                  have HWF := Lib.hid h.m.wf
                  have HKp := Lib.hid hst
                  have HYw := Lib.hid (hy.alloc (.cells #[.int .u64 5] 40))
                  clear h hst hy hz hmc hi8
                  go_wp2_with fail
                  refine HP.out.mono ?_
                  rintro e w8 ⟨rfl, h8, hx8⟩
                  have H8 := Lib.hid h8
                  have HY8 := Lib.hid (hx8.hb HYw.out HEY.out (by decide) (by decide))
                  clear h8 hx8 HP HYw
                  go_wp2
                  go_roundw
                  case rel => exact ⟨i + 1, _, by omega, by go_num, H8.out, HKp.out.put HWF.out 0 z [5], HY8.out⟩
                  case measure => simp [intOf]; omega
              · have hl2 : ¬ ((i : Int) < 8) := by omega
                have y0 := hy.c 0 rfl
                have y1 := hy.c 1 rfl
                have hLd := h.load (0, 1) 0
                rw [hst.load] at hLd
                have HLd := Lib.hid hLd
                have HY0 := Lib.hid hy
                have HSt := Lib.hid hst
                clear h hst hy hLd
                go_wp2_with fail
                refine HLd.out.mono ?_
                rintro e w20 ⟨rfl, h20, hx20⟩
                have HY20 := Lib.hid (hx20.hb HY0.out HEY.out (by decide) (by decide))
                have H20 := Lib.hid h20
                have HKn := Lib.hid (known_any w20)
                clear h20 hx20 HLd y0 y1
                go_wp2_with fail
                refine HKn.out.mono ?_
                rintro e w21 ⟨rfl, hc21⟩
                have h21 := H20.out.quiet hc21
                have hy21 := HY20.out.ch hc21 (by simp)
                have y0 := hy21.c 0 rfl
                have y1 := hy21.c 1 rfl
                have hS := h21.store (0, 1) 0 9
                rw [HSt.out.store] at hS
                have HS := Lib.hid hS
                have HY21 := Lib.hid hy21
                clear hc21 h21 hy21 hS HKn H20 HY20
                go_wp2_with fail
                refine HS.out.mono ?_
                rintro e w22 ⟨rfl, h22, hx22⟩
                have hy22 := hx22.hb HY21.out HEY.out (by decide) (by decide)
                have hL := h22.linked (0, 1)
                rw [HSt.out.linked] at hL
                have HL := Lib.hid hL
                clear y0 y1
                have y0 := hy22.c 0 rfl
                have y1 := hy22.c 1 rfl
                clear h22 hx22 hy22 hL HS
                go_wp2_with fail
                refine HL.out.mono ?_
                rintro e w23 ⟨rfl, h23, -⟩
                have HC := Lib.hid h23.c
                clear h23 HL y0 y1
                go_wp2
                go_ret
                exact ⟨rfl, HC.out⟩
            · have hl1 : ¬ ((i : Int) < (ml : Int)) := by omega
              have y0 := hy.c 0 rfl
              have y1 := hy.c 1 rfl
              have hLd := h.load (0, 1) 0
              rw [hst.load] at hLd
              have HLd := Lib.hid hLd
              have HY0 := Lib.hid hy
              have HSt := Lib.hid hst
              clear h hst hy hLd
              go_wp2_with fail
              refine HLd.out.mono ?_
              rintro e w20 ⟨rfl, h20, hx20⟩
              have HY20 := Lib.hid (hx20.hb HY0.out HEY.out (by decide) (by decide))
              have H20 := Lib.hid h20
              have HKn := Lib.hid (known_any w20)
              clear h20 hx20 HLd y0 y1
              go_wp2_with fail
              refine HKn.out.mono ?_
              rintro e w21 ⟨rfl, hc21⟩
              have h21 := H20.out.quiet hc21
              have hy21 := HY20.out.ch hc21 (by simp)
              have y0 := hy21.c 0 rfl
              have y1 := hy21.c 1 rfl
              have hS := h21.store (0, 1) 0 9
              rw [HSt.out.store] at hS
              have HS := Lib.hid hS
              have HY21 := Lib.hid hy21
              clear hc21 h21 hy21 hS HKn H20 HY20
              go_wp2_with fail
              refine HS.out.mono ?_
              rintro e w22 ⟨rfl, h22, hx22⟩
              have hy22 := hx22.hb HY21.out HEY.out (by decide) (by decide)
              have hL := h22.linked (0, 1)
              rw [HSt.out.linked] at hL
              have HL := Lib.hid hL
              clear y0 y1
              have y0 := hy22.c 0 rfl
              have y1 := hy22.c 1 rfl
              clear h22 hx22 hy22 hL HS
              go_wp2_with fail
              refine HL.out.mono ?_
              rintro e w23 ⟨rfl, h23, -⟩
              have HC := Lib.hid h23.c
              clear h23 HL y0 y1
              go_wp2
              go_ret
              exact ⟨rfl, HC.out⟩
end Go.Proofs.YtalhlopjaijhcaaGreat
