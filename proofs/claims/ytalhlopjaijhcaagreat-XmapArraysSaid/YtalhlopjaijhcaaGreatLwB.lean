/-
  The law XmapArrays, walked.
-/
import Derived.Test.YtalhlopjaijhcaaGreatLwA
namespace Go.Proofs.YtalhlopjaijhcaaGreat
open Go.RowKit

attribute [local go_sem] Oper.semAt_some

set_option maxRecDepth 100000 in
set_option maxHeartbeats 4000000 in
theorem arrays_law (r : Int) (k x : Nat) (hk : k < 18446744073709551616) (w : World) : Calls Tryz.prog 6 #[.int .i64 r, .int .u64 (k : Int), .int .u64 (x : Int)] w fun e w' => e = .returned (.bool true) ∧ Ch [] w w' := by
  have u0 : 0 ≤ IntKind.u64.wrap r ∧ IntKind.u64.wrap r < 18446744073709551616 := by rw [IntKind.wrap_u64]; omega
  generalize hg0 : IntKind.u64.wrap r = U0 at u0
  obtain ⟨u00, u01⟩ := u0
  obtain ⟨n, hr0, hr1, hr2⟩ : ∃ n : Nat, 1 + U0 % 8 = (n : Int) ∧ 1 ≤ n ∧ n ≤ 8 := ⟨(1 + U0 % 8).toNat, by omega⟩
  have HN := Lib.hid (show Calls Tryz.prog 9 #[.int .i64 0, .int .i64 (n : Int), .int .i64 2] w _ from ml_new (kind := 0) (n := n) (wd := 2) (by omega) ⟨hr1, hr2⟩ (by omega) (Ch.refl [] w))
  have hwn : IntKind.u64.wrap (n : Int) = (n : Int) := by rw [IntWalk.u64_in _ (by omega)]
  go_enter Tryz.func6, Tryz.ntmps6
  go_wp2_with fail
  with_reducible refine HN.out.mono ?_
  rintro e w1 ⟨b, rfl, h1, -⟩
  have h1 : ML w w1 b (arrM n 2 n) 8 := h1
  have HL := h1.len
  rw [show (arrM n 2 n).tb.length = n from arrT_len n] at HL
  have HL := Lib.hid HL
  have HH := h1.held
  rw [arr_held] at HH
  have HH := Lib.hid HH
  have H1 := Lib.hid h1
  clear h1 HN
  have hnn : ((n : Int) != (n : Int)) = false := by simp
  go_wp2_with fail
  with_reducible refine HL.out.mono ?_
  rintro e w2 ⟨rfl, rfl⟩
  go_wp2_with fail
  with_reducible refine HH.out.mono ?_
  rintro e w2 ⟨rfl, hc2⟩
  have hP := ((H1.out.quiet hc2).quiet ((Ch.refl [] w2).alloc (.cells #[.int .u64 (x : Int), .int .u64 (x : Int)] 40))).put 0 hk (some ⟨w2.heap.size, 0, none⟩) 2 [x, x] (by simp) (lit2_WA w2 x x _) (by omega)
  rw [ar_put] at hP
  have HP := Lib.hid hP
  clear hP hc2 H1 HL HH
  by_cases hin : k < n
  · obtain ⟨PAX, hPA⟩ : ∃ PAX : PA, PAX = ⟨((k : Int), 1), (0, 0), false, 0⟩ := ⟨_, rfl⟩
    rw [if_pos hin] at HP
    have hdk : decide (k < n) = true := by simpa using hin
    have hik : IntKind.i64.wrap (k : Int) = (k : Int) := by rw [IntWalk.i64_in _ (by omega)]
    have hkk : ((k : Int) != (k : Int)) = false := by simp
    rw [← hPA] at HP
    rw [show PAX.e = 0 by rw [hPA]] at HP
    have HPA := Lib.hid hPA
    clear hPA
    go_wp2_with fail
    refine HP.out.mono ?_
    rintro e w3 ⟨rfl, h3, hx3⟩
    have HBp := Lib.hid (HB.new w3 62 (paC PAX))
    have HEp := Lib.hid (show b.Eh ≤ w3.heap.size from h3.eh)
    have hD := (h3.quiet ((Ch.refl [] w3).alloc (.cells (paC PAX) 62))).del hk
    rw [ar_del] at hD
    have HD := Lib.hid hD
    clear h3 hx3 HP hD
    obtain ⟨X, hX⟩ : ∃ X, X = w3.heap.size := ⟨_, rfl⟩
    rw [← hX] at HBp HEp
    have HX := Lib.hid hX
    clear hX
    go_wp2_with fail
    rw [← HX.out]
    refine HD.out.mono ?_
    rintro e w4 ⟨rfl, h4, hx4⟩
    have HB4 := Lib.hid (hx4.hb HBp.out HEp.out (by decide) (by decide))
    obtain ⟨w5, hw5⟩ : ∃ w5, w5 = w4.alloc (.cells #[.int .i64 0, .int .i64 0] 39) := ⟨_, rfl⟩
    have hc5 : Ch [] w4 w5 := by rw [hw5]; exact (Ch.refl [] w4).alloc _
    have hP := (h4.quiet hc5).put 1 hk none 0 [] (by decide) (.inl rfl) (by omega)
    rw [ar_fresh] at hP
    have HP2 := Lib.hid hP
    have HB5 := Lib.hid (HB4.out.ch hc5 (by simp))
    have HW5 := Lib.hid hw5
    clear h4 hx4 HD HBp HB4 hP hw5 hc5
    go_wp2_with fail
    change Calls _ _ _ (w4.alloc (.cells #[.int .i64 0, .int .i64 0] 39)) _
    rw [← HW5.out]
    refine HP2.out.mono ?_
    rintro e w6 ⟨rfl, h6, hx6⟩
    have hB6 := (hx6.hb HB5.out HEp.out (by decide) (by decide)).alloc (.cells (paC (noPut (if k < n then 5 else 2))) 62)
    have H6 := Lib.hid (h6.quiet ((Ch.refl [] w6).alloc (.cells (paC (noPut (if k < n then 5 else 2))) 62)))
    have p0 : (w6.alloc (.cells (paC (noPut (if k < n then 5 else 2))) 62)).cell? ⟨X, 0, none⟩ = some (.int .i64 PAX.h.1) := hB6.c 0 rfl
    clear h6 hx6 HP2 HB5 hB6
    rw [show PAX.h.1 = (k : Int) by rw [HPA.out]] at p0
    rw [if_pos hin] at *
    go_wp2_with fail
    clear hin hdk p0
    go_loopw [16] (fun iv wr => ∃ i : Nat, i ≤ n ∧ iv = .int .i64 (i : Int) ∧ ML w wr b (arP n k x) (8 + 1 + 1)) (fun iv _ => n - (intOf iv).toNat)
    case atStart => exact ⟨0, Nat.zero_le _, rfl, H6.out⟩
    case round =>
      obtain ⟨i, hi, rfl, h⟩ := hrel
      by_cases hlt : i < n
      · have hL := h.look i
        rw [(ar_look n k x hlt).1, (ar_look n k x hlt).2] at hL
        have HL := Lib.hid hL
        have hil : (i : Int) < (n : Int) := by omega
        have hwi : IntKind.u64.wrap (i : Int) = (i : Int) := by rw [IntWalk.u64_in _ (by omega)]
        have hw1 : IntKind.i64.wrap ((i : Int) + 1) = (i : Int) + 1 := by rw [IntWalk.i64_in _ (by omega)]
        clear h hL
        go_wp2_with fail
        refine HL.out.mono ?_
        rintro e w7 ⟨rfl, h7, -⟩
        obtain ⟨w8, hw8⟩ : ∃ w8, w8 = w7.alloc (.cells #[.int .i64 (i : Int), .int .i64 1] 39) := ⟨_, rfl⟩
        have hb8 : HB w8 w7.heap.size 39 #[.int .i64 (i : Int), .int .i64 1] := by rw [hw8]; exact HB.new w7 _ _
        have hc8 : Ch [] w7 w8 := by rw [hw8]; exact (Ch.refl [] w7).alloc _
        have hLd := (h7.quiet hc8).load ((i : Int), 1) 1
        rw [ar_load n k x hlt] at hLd
        obtain ⟨z, hz⟩ : ∃ z, z = if i = k then x else 0 := ⟨_, rfl⟩
        rw [← hz] at hLd
        have HZ := Lib.hid hz
        have HLd := Lib.hid hLd
        have HB8 := Lib.hid hb8
        have HE8 := Lib.hid (show b.Eh ≤ w7.heap.size from h7.eh)
        have HW8 := Lib.hid hw8
        have g0 := hb8.c 0 rfl
        have g1 := hb8.c 1 rfl
        rw [hw8] at g0 g1
        clear h7 hb8 hc8 hLd hw8 HL hz
        go_wp2_with fail
        rw [← HW8.out]
        refine HLd.out.mono ?_
        rintro e w9 ⟨rfl, h9, hx9⟩
        have g0 := (hx9.hb HB8.out HE8.out (by decide) (by decide)).c 0 rfl
        have H9 := Lib.hid h9
        have hii : ((i : Int) != (i : Int)) = false := by simp
        clear h9 hx9 HLd
        by_cases e : i = k
        · have he : ((i : Int) == (k : Int)) = true := by rw [e]; exact beq_self_eq_true _
          have hei : (i : Int) = (k : Int) := by omega
          have hz : z = x := by rw [HZ.out, if_pos e]
          subst hz
          have hxx : ((z : Int) != (z : Int)) = false := by simp
          go_wp2
          go_roundw
          case rel => exact ⟨i + 1, by omega, by go_num, H9.out⟩
          case measure => simp [intOf]; omega
        · have he : ((i : Int) == (k : Int)) = false := by simp; omega
          have hei : ¬ (i : Int) = (k : Int) := by omega
          have hz : z = 0 := by rw [HZ.out, if_neg e]
          subst hz
          go_wp2
          go_roundw
          case rel => exact ⟨i + 1, by omega, by go_num, H9.out⟩
          case measure => simp [intOf]; omega
      · obtain rfl : i = n := by omega
        have HCl := Lib.hid h.close
        have HLen := Lib.hid (show (keysM (arP i k x)).length = i by rw [keysM_len h.m.wf, (arP_eq i k x).2.2.2.2.1, arrT_len])
        clear h
        go_wp2_with fail
        refine HCl.out.mono ?_
        rintro e w7 ⟨v, rfl, hr, h7, -⟩
        rw [HLen.out] at hr
        obtain ⟨a, cap, rfl⟩ := own_form hr
        have hP := h7.put 2 (k := 0) (by omega) none 0 [] (by decide) (.inl rfl) (by omega)
        rw [show putM (closeM (arP i k x)) 2 0 [] = (closeM (arP i k x), noPut 22) from rfl] at hP
        have HP := Lib.hid hP
        clear hr h7 hP HCl
        go_wp2_with fail
        refine HP.out.mono ?_
        rintro e w8 ⟨rfl, h8, -⟩
        have H8 := Lib.hid (h8.quiet ((Ch.refl [] w8).alloc (.cells (paC (noPut 22)) 62)))
        have HKn := Lib.hid (known_any (w8.alloc (.cells (paC (noPut 22)) 62)))
        clear h8 HP
        go_wp2_with fail
        refine HKn.out.mono ?_
        rintro e w9 ⟨rfl, hc9⟩
        have h9 := H8.out.quiet hc9
        have HL := Lib.hid (show Calls Tryz.prog 16 #[mp b] w9 fun e w' => e = .returned (.int .i64 0) ∧ w' = w9 from h9.len)
        have hHl := h9.held
        rw [show heldN (closeM (arP i k x)) = i from ar_held i k x] at hHl
        have HHl := Lib.hid hHl
        have H9 := Lib.hid h9
        clear hc9 h9 hHl H8 HKn
        have hii : ((i : Int) == (i : Int)) = true := by simp
        go_wp2_with fail
        refine HL.out.mono ?_
        rintro e w10 ⟨rfl, rfl⟩
        go_wp2_with fail
        refine HHl.out.mono ?_
        rintro e w11 ⟨rfl, hc11⟩
        have hCl := (H9.out.quiet hc11).close
        rw [show (keysM (closeM (arP i k x))).length = 0 by rw [keysM_len (H9.out.m.wf)]; rfl] at hCl
        have HCl := Lib.hid hCl
        clear hc11 hCl H9 HHl HL
        go_wp2_with fail
        refine HCl.out.mono ?_
        rintro e w12 ⟨v, rfl, hr, h12, -⟩
        obtain ⟨a, cap, rfl⟩ := own_form hr
        have HC := Lib.hid h12.c
        clear hr h12 HCl
        go_wp2
        go_ret
        exact ⟨rfl, HC.out⟩
  · obtain ⟨PAX, hPA⟩ : ∃ PAX : PA, PAX = noPut 2 := ⟨_, rfl⟩
    rw [if_neg hin] at HP
    have hdk : decide (k < n) = false := by simpa using hin
    rw [← hPA] at HP
    rw [show PAX.e = 2 by rw [hPA]; rfl] at HP
    have HPA := Lib.hid hPA
    clear hPA
    go_wp2_with fail
    refine HP.out.mono ?_
    rintro e w3 ⟨rfl, h3, hx3⟩
    have HBp := Lib.hid (HB.new w3 62 (paC PAX))
    have HEp := Lib.hid (show b.Eh ≤ w3.heap.size from h3.eh)
    have hD := (h3.quiet ((Ch.refl [] w3).alloc (.cells (paC PAX) 62))).del hk
    rw [ar_del] at hD
    have HD := Lib.hid hD
    clear h3 hx3 HP hD
    obtain ⟨X, hX⟩ : ∃ X, X = w3.heap.size := ⟨_, rfl⟩
    rw [← hX] at HBp HEp
    have HX := Lib.hid hX
    clear hX
    go_wp2_with fail
    rw [← HX.out]
    refine HD.out.mono ?_
    rintro e w4 ⟨rfl, h4, hx4⟩
    have HB4 := Lib.hid (hx4.hb HBp.out HEp.out (by decide) (by decide))
    obtain ⟨w5, hw5⟩ : ∃ w5, w5 = w4.alloc (.cells #[.int .i64 0, .int .i64 0] 39) := ⟨_, rfl⟩
    have hc5 : Ch [] w4 w5 := by rw [hw5]; exact (Ch.refl [] w4).alloc _
    have hP := (h4.quiet hc5).put 1 hk none 0 [] (by decide) (.inl rfl) (by omega)
    rw [ar_fresh] at hP
    have HP2 := Lib.hid hP
    have HB5 := Lib.hid (HB4.out.ch hc5 (by simp))
    have HW5 := Lib.hid hw5
    clear h4 hx4 HD HBp HB4 hP hw5 hc5
    go_wp2_with fail
    change Calls _ _ _ (w4.alloc (.cells #[.int .i64 0, .int .i64 0] 39)) _
    rw [← HW5.out]
    refine HP2.out.mono ?_
    rintro e w6 ⟨rfl, h6, hx6⟩
    have hB6 := (hx6.hb HB5.out HEp.out (by decide) (by decide)).alloc (.cells (paC (noPut (if k < n then 5 else 2))) 62)
    have H6 := Lib.hid (h6.quiet ((Ch.refl [] w6).alloc (.cells (paC (noPut (if k < n then 5 else 2))) 62)))
    have p0 : (w6.alloc (.cells (paC (noPut (if k < n then 5 else 2))) 62)).cell? ⟨X, 0, none⟩ = some (.int .i64 PAX.h.1) := hB6.c 0 rfl
    clear h6 hx6 HP2 HB5 hB6
    rw [if_neg hin] at *
    go_wp2_with fail
    clear hin hdk p0
    go_loopw [16] (fun iv wr => ∃ i : Nat, i ≤ n ∧ iv = .int .i64 (i : Int) ∧ ML w wr b (arP n k x) (8 + 1 + 1)) (fun iv _ => n - (intOf iv).toNat)
    case atStart => exact ⟨0, Nat.zero_le _, rfl, H6.out⟩
    case round =>
      obtain ⟨i, hi, rfl, h⟩ := hrel
      by_cases hlt : i < n
      · have hL := h.look i
        rw [(ar_look n k x hlt).1, (ar_look n k x hlt).2] at hL
        have HL := Lib.hid hL
        have hil : (i : Int) < (n : Int) := by omega
        have hwi : IntKind.u64.wrap (i : Int) = (i : Int) := by rw [IntWalk.u64_in _ (by omega)]
        have hw1 : IntKind.i64.wrap ((i : Int) + 1) = (i : Int) + 1 := by rw [IntWalk.i64_in _ (by omega)]
        clear h hL
        go_wp2_with fail
        refine HL.out.mono ?_
        rintro e w7 ⟨rfl, h7, -⟩
        obtain ⟨w8, hw8⟩ : ∃ w8, w8 = w7.alloc (.cells #[.int .i64 (i : Int), .int .i64 1] 39) := ⟨_, rfl⟩
        have hb8 : HB w8 w7.heap.size 39 #[.int .i64 (i : Int), .int .i64 1] := by rw [hw8]; exact HB.new w7 _ _
        have hc8 : Ch [] w7 w8 := by rw [hw8]; exact (Ch.refl [] w7).alloc _
        have hLd := (h7.quiet hc8).load ((i : Int), 1) 1
        rw [ar_load n k x hlt] at hLd
        obtain ⟨z, hz⟩ : ∃ z, z = if i = k then x else 0 := ⟨_, rfl⟩
        rw [← hz] at hLd
        have HZ := Lib.hid hz
        have HLd := Lib.hid hLd
        have HB8 := Lib.hid hb8
        have HE8 := Lib.hid (show b.Eh ≤ w7.heap.size from h7.eh)
        have HW8 := Lib.hid hw8
        have g0 := hb8.c 0 rfl
        have g1 := hb8.c 1 rfl
        rw [hw8] at g0 g1
        clear h7 hb8 hc8 hLd hw8 HL hz
        go_wp2_with fail
        rw [← HW8.out]
        refine HLd.out.mono ?_
        rintro e w9 ⟨rfl, h9, hx9⟩
        have g0 := (hx9.hb HB8.out HE8.out (by decide) (by decide)).c 0 rfl
        have H9 := Lib.hid h9
        have hii : ((i : Int) != (i : Int)) = false := by simp
        clear h9 hx9 HLd
        by_cases e : i = k
        · have he : ((i : Int) == (k : Int)) = true := by rw [e]; exact beq_self_eq_true _
          have hei : (i : Int) = (k : Int) := by omega
          have hz : z = x := by rw [HZ.out, if_pos e]
          subst hz
          have hxx : ((z : Int) != (z : Int)) = false := by simp
          go_wp2
          go_roundw
          case rel => exact ⟨i + 1, by omega, by go_num, H9.out⟩
          case measure => simp [intOf]; omega
        · have he : ((i : Int) == (k : Int)) = false := by simp; omega
          have hei : ¬ (i : Int) = (k : Int) := by omega
          have hz : z = 0 := by rw [HZ.out, if_neg e]
          subst hz
          go_wp2
          go_roundw
          case rel => exact ⟨i + 1, by omega, by go_num, H9.out⟩
          case measure => simp [intOf]; omega
      · obtain rfl : i = n := by omega
        have HCl := Lib.hid h.close
        have HLen := Lib.hid (show (keysM (arP i k x)).length = i by rw [keysM_len h.m.wf, (arP_eq i k x).2.2.2.2.1, arrT_len])
        clear h
        go_wp2_with fail
        refine HCl.out.mono ?_
        rintro e w7 ⟨v, rfl, hr, h7, -⟩
        rw [HLen.out] at hr
        obtain ⟨a, cap, rfl⟩ := own_form hr
        have hP := h7.put 2 (k := 0) (by omega) none 0 [] (by decide) (.inl rfl) (by omega)
        rw [show putM (closeM (arP i k x)) 2 0 [] = (closeM (arP i k x), noPut 22) from rfl] at hP
        have HP := Lib.hid hP
        clear hr h7 hP HCl
        go_wp2_with fail
        refine HP.out.mono ?_
        rintro e w8 ⟨rfl, h8, -⟩
        have H8 := Lib.hid (h8.quiet ((Ch.refl [] w8).alloc (.cells (paC (noPut 22)) 62)))
        have HKn := Lib.hid (known_any (w8.alloc (.cells (paC (noPut 22)) 62)))
        clear h8 HP
        go_wp2_with fail
        refine HKn.out.mono ?_
        rintro e w9 ⟨rfl, hc9⟩
        have h9 := H8.out.quiet hc9
        have HL := Lib.hid (show Calls Tryz.prog 16 #[mp b] w9 fun e w' => e = .returned (.int .i64 0) ∧ w' = w9 from h9.len)
        have hHl := h9.held
        rw [show heldN (closeM (arP i k x)) = i from ar_held i k x] at hHl
        have HHl := Lib.hid hHl
        have H9 := Lib.hid h9
        clear hc9 h9 hHl H8 HKn
        have hii : ((i : Int) == (i : Int)) = true := by simp
        go_wp2_with fail
        refine HL.out.mono ?_
        rintro e w10 ⟨rfl, rfl⟩
        go_wp2_with fail
        refine HHl.out.mono ?_
        rintro e w11 ⟨rfl, hc11⟩
        have hCl := (H9.out.quiet hc11).close
        rw [show (keysM (closeM (arP i k x))).length = 0 by rw [keysM_len (H9.out.m.wf)]; rfl] at hCl
        have HCl := Lib.hid hCl
        clear hc11 hCl H9 HHl HL
        go_wp2_with fail
        refine HCl.out.mono ?_
        rintro e w12 ⟨v, rfl, hr, h12, -⟩
        obtain ⟨a, cap, rfl⟩ := own_form hr
        have HC := Lib.hid h12.c
        clear hr h12 HCl
        go_wp2
        go_ret
        exact ⟨rfl, HC.out⟩
end Go.Proofs.YtalhlopjaijhcaaGreat
