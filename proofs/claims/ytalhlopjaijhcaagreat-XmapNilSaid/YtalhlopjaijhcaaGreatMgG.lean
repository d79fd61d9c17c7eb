/-
  Several texts in one: A table of handles: Get, Put. · A table of handles: Chain, Keys. · A table of handles: Del.
-/
import Derived.Test.YtalhlopjaijhcaaGreatMgF
import Derived.WalkMore
import Derived.Scope
namespace Go.Proofs.YtalhlopjaijhcaaGreat.bH
open Go.RowKit Go.Shelf

attribute [local go_sem] Oper.semAt_some

theorem At.val {w : World} {S R K n room : Nat} {H : Nat → Value} {L : List E} {k j g cap : Nat} {x : E} (h : At w S R K n room H L k j x g cap) : valE L k = some x.v ∧ k ∈ ksE L ∧ w.cell? ⟨g, j * 3 + 1, none⟩ = some (.int .i64 x.v.1) ∧ w.cell? ⟨g, j * 3 + 1 + 1, none⟩ = some (.int .i64 x.v.2) := by
  have hx : x ∈ L := (chn_mem.1 (List.mem_of_getElem? h.pl)).1
  have hb : bk n k < n := bk_lt (by have := h.tb.hn; omega) k
  obtain ⟨a, cap', hf, _, _, _, hat⟩ := CR.form (h.tb.rows _ hb)
  obtain ⟨g', ha, _, c1, c2⟩ := hat j x h.pl
  rw [h.hd] at hf
  subst ha
  obtain rfl : g = g' := by simpa using (Value.slice.inj hf).1
  exact ⟨by rw [← h.key]; exact val_in h.tb.nd hx, by rw [← h.key]; exact ksE_mem.2 ⟨x, hx, rfl⟩, c1, c2⟩

theorem get_any {w : World} {S n : Nat} {p : Option Addr} {L : List E} (h : TG w S p n L) (k : Nat) :
    Calls Tryz.prog 58 #[.pointer p, .int .u64 (k : Int)] w fun e w' => e = .returned (.tuple #[vv ((valE L k).getD v0), .bool (valE L k).isSome]) ∧ Ch [] w w' := by
  obtain ⟨w1, hw1⟩ : ∃ w1, w1 = w.alloc (.cells #[.int .i64 0, .int .i64 0] 39) := ⟨_, rfl⟩
  have hc1 : Ch [] w w1 := by rw [hw1]; exact (Ch.refl [] w).alloc _
  have HF := Lib.hid (find_any k (h.quiet hc1))
  have HC1 := Lib.hid hc1
  have HR := Lib.hid (show Box2 w1 w.heap.size (.int .i64 0) (.int .i64 0) by rw [hw1]; exact Box2.new w _ _ _)
  have HW := Lib.hid hw1
  clear h hw1 hc1
  go_enter Tryz.func58, Tryz.ntmps58
  go_wp2_with fail
  rw [← HW.out]
  with_reducible refine HF.out.mono ?_
  rintro e w2 ⟨(⟨hno, rfl⟩ | ⟨R', K', room', H', j, x, g, cap, hp, hat, rfl⟩), hc⟩
  · have HV := Lib.hid (val_not hno)
    have HC := Lib.hid (HC1.out.trans hc)
    have HR2 := Lib.hid (HR.out.ch hc (by simp))
    clear hc hno HF
    go_upto_region 5 with (fail)
    obtain ⟨w3, hw3⟩ : ∃ w3, w3 = w2.alloc (.cells #[.int .i64 0, .int .i64 0] 39) := ⟨_, rfl⟩
    have HC3 := Lib.hid (show Ch [] w w3 by rw [hw3]; exact HC.out.alloc _)
    have hr3 : Box2 w3 w.heap.size (.int .i64 0) (.int .i64 0) := by rw [hw3]; exact HR2.out.alloc _
    have hn3 : Box2 w3 w2.heap.size (.int .i64 0) (.int .i64 0) := by rw [hw3]; exact Box2.new w2 _ _ _
    have HR3 := Lib.hid hr3
    rw [← hw3]
    obtain ⟨X, hX⟩ : ∃ X, X = w2.heap.size := ⟨_, rfl⟩
    rw [← hX] at hn3 ⊢
    obtain ⟨c0, c1, f0, f1⟩ := hr3
    obtain ⟨d0, d1, _, _⟩ := hn3
    have c1' := setCell_other (u := Value.int .i64 0) c1 (addr_ne_off (g := w.heap.size) (a := 0) (b := 1) (by decide))
    clear hw3 hX
    go_wp2
    obtain ⟨k0, k1, _, _⟩ := HR3.out.set (.int .i64 0) (.int .i64 0)
    refine bodyPost_ret (v := .tuple #[vv v0, .bool false]) ?_ rfl ?_
    · simp [results, Tryz.f58, go_sem, k0, k1]
    · rw [HV.out]
      exact ⟨rfl, chSetNew (p := ⟨w.heap.size, 1, none⟩) (chSetNew (p := ⟨w.heap.size, 0, none⟩) HC3.out (Nat.le_refl _) _) (Nat.le_refl _) _⟩
  · obtain ⟨h1, -, h3, h4⟩ := hat.val
    have HV := Lib.hid h1
    have HC := Lib.hid (HC1.out.trans hc)
    have c1 := (hc.cell (p := ⟨g, j * 3 + 1, none⟩) (cell_lt h3) (by simp)).trans h3
    have c2 := (hc.cell (p := ⟨g, j * 3 + 1 + 1, none⟩) (cell_lt h4) (by simp)).trans h4
    have HR2 := Lib.hid (HR.out.ch hc (by simp))
    obtain ⟨d0, d1, f0, f1⟩ := HR2.out
    obtain ⟨y, hy⟩ : ∃ y, y = x.v := ⟨_, rfl⟩
    rw [← hy] at HV c1 c2
    have d1' := setCell_other (u := Value.int .i64 y.1) d1 (addr_ne_off (g := w.heap.size) (a := 0) (b := 1) (by decide))
    clear hc hat h1 h3 h4 HF hy
    go_wp2
    obtain ⟨k0, k1, _, _⟩ := HR2.out.set (.int .i64 y.1) (.int .i64 y.2)
    refine bodyPost_ret (v := .tuple #[vv y, .bool true]) ?_ rfl ?_
    · simp [results, Tryz.f58, go_sem, k0, k1]
    · rw [HV.out]
      exact ⟨rfl, chSetNew (p := ⟨w.heap.size, 1, none⟩) (chSetNew (p := ⟨w.heap.size, 0, none⟩) HC.out (Nat.le_refl _) _) (Nat.le_refl _) _⟩

set_option maxRecDepth 100000 in
set_option maxHeartbeats 4000000 in
/-- A key that is not there yet, where there is room. -/
theorem put_new {w : World} {S R K n room : Nat} {H : Nat → Value} {L : List E} (h : TB w S R K n room H L) (k : Nat) (v : V) (hk : k ∉ ksE L) (hroom : L.length < room) :
    Calls Tryz.prog 71 #[.pointer (some ⟨R, 0, none⟩), .int .u64 (k : Int), vv v] w fun e w' =>
      e = .returned (.tuple #[.bool false, .int .i64 0]) ∧ (∃ H', TB w' S R K n room H' (⟨k, v⟩ :: L)) ∧ Tn S w w' := by
  obtain ⟨w0, hw0⟩ : ∃ w0, w0 = w.alloc (.cells #[.int .i64 v.1, .int .i64 v.2] 39) := ⟨_, rfl⟩
  have hc0 : Ch [] w w0 := by rw [hw0]; exact (Ch.refl [] w).alloc _
  have h0 := h.quiet hc0
  have hTG : TG w0 S (some ⟨R, 0, none⟩) n L := .inr ⟨R, K, room, H, rfl, h0⟩
  have HF := Lib.hid (find_any k hTG)
  have HT := Lib.hid h0
  have HG := Lib.hid hTG
  have HC0 := Lib.hid hc0
  have HBx := Lib.hid (show Box2 w0 w.heap.size (.int .i64 v.1) (.int .i64 v.2) by rw [hw0]; exact Box2.new w _ _ _)
  have HNb := Lib.hid (fun b (hb : b < n) => (show (H b).ownBlock ≠ some w.heap.size from fun e => Nat.lt_irrefl _ ((h.rows b hb).lt _ e).2))
  have HLt := Lib.hid h.lt
  have HW := Lib.hid hw0
  clear h hTG h0 hw0 hc0
  go_enter Tryz.func71, Tryz.ntmps71
  go_wp2_with fail
  rw [← HW.out]
  with_reducible refine HF.out.mono ?_
  rintro e w1 ⟨(⟨hno, rfl⟩ | ⟨R', K', room', H', j, x, g, cap, hp, hat, rfl⟩), hc⟩
  · have HC := Lib.hid (HC0.out.trans hc)
    have HBx1 := Lib.hid (HBx.out.ch hc (by simp))
    have HNo := Lib.hid hno
    have ht := HT.out.quiet hc
    have HT1 := Lib.hid ht
    have HL := Lib.hid (fun W (hW : Ch [] w1 W) => len_any (.inr ⟨R, K, room, H, rfl, ht.quiet hW⟩ : TG W S (some ⟨R, 0, none⟩) n L))
    have HB := Lib.hid (fun W (hW : Ch [] w1 W) => bucket_any (.inr ⟨R, K, room, H, rfl, ht.quiet hW⟩ : TG W S (some ⟨R, 0, none⟩) n L) k)
    have c0 := ht.c0
    obtain ⟨m, hm⟩ : ∃ m, m = L.length := ⟨_, rfl⟩
    rw [← hm] at HL
    have hfull : ¬ room ≤ m := by omega
    have hd : decide ((room : Int) ≤ (m : Int)) = false := decide_eq_false (by omega)
    have HM := Lib.hid (show L.length < room by omega)
    obtain ⟨b, hb⟩ : ∃ b, bk n k = b := ⟨_, rfl⟩
    rw [hb] at HB
    have hbn : b < n := by rw [← hb]; exact bk_lt (by have := ht.hn; omega) k
    have HBk := Lib.hid hb
    clear hc hno ht HF hm hb
    go_wp2_with fail
    go_quiet ((go_at_call 52; exact Calls.quiet_of_same (HL.out _ ((Ch.refl [] w1).drewN _))))
    obtain ⟨w2, hw2⟩ : ∃ W, W = w1.drewN nq := ⟨_, rfl⟩
    have hc2 : Ch [] w1 w2 := by rw [hw2]; exact (Ch.refl [] w1).drewN nq
    have HB2 := Lib.hid (HB.out w2 hc2)
    have HC2 := Lib.hid (HC.out.trans hc2)
    have HBx2 := Lib.hid (HBx1.out.ch hc2 (by simp))
    have ht2 := HT1.out.quiet hc2
    have HT2 := Lib.hid ht2
    have t1 := ht2.c1
    obtain ⟨tH, fH⟩ := ht2.head hbn
    obtain ⟨hv, hhv⟩ : ∃ x, x = H b := ⟨_, rfl⟩
    rw [← hhv] at tH
    have HHv := Lib.hid hhv
    rw [← hw2]
    clear hw2 hc2 ht2 c0 hd HL HB HT1 HC hhv
    go_wp2_with fail
    with_reducible refine HB2.out.mono ?_
    rintro e w3 ⟨rfl, hw3⟩
    subst w3
    obtain ⟨X, hX⟩ : ∃ X, X = w2.heap.size := ⟨_, rfl⟩
    have HX := Lib.hid hX
    obtain ⟨w5, hw5⟩ : ∃ W, W = (w2.alloc (.cells #[.int .u64 (k : Int), .int .i64 v.1, .int .i64 v.2] 170)).drew := ⟨_, rfl⟩
    have hc5 : Ch [] w2 w5 := by rw [hw5]; exact ((Ch.refl [] w2).alloc _).drew
    have hX5 : w5.heap[X]? = some (.cells #[.int .u64 (k : Int), .int .i64 v.1, .int .i64 v.2] 170 (0, 0)) := by rw [hw5, hX]; exact World.alloc_heap_new w2 _
    have hrow := HT2.out.rows b hbn
    have hne : hv.ownBlock ≠ some X := by
      rw [HHv.out]
      intro e
      have := (hrow.lt X e).2
      omega
    rw [← HHv.out] at hrow
    have hl64 : (chn n b L).length ≤ 64 := by have := chn_len n b L; have := HT2.out.hl; have := HT2.out.hr; omega
    have HBx5 := Lib.hid (HBx2.out.ch hc5 (by simp))
    obtain ⟨x0, x1, _, _⟩ := HBx2.out
    obtain ⟨y0, y1, _, _⟩ := HBx5.out
    have HIns := Lib.hid (insert_any (own_ch hrow hc5 (by simp)) (by have := HT2.out.lt; have := hc5.size; omega) hl64 ⟨k, v⟩ X hX5 hne)
    have HC5 := Lib.hid hc5
    have a1 := (hc5.cell (p := ⟨R, 1, none⟩) (cell_lt t1) (by simp)).trans t1
    have aH := (hc5.cell (p := ⟨K, b, none⟩) (cell_lt tH) (by simp)).trans tH
    have HW5 := Lib.hid hw5
    have hb0 : (0 : Int) ≤ (b : Int) := by omega
    have hb1 : (b : Int) < (n : Int) := by omega
    rw [hw5] at a1 aH y0 y1
    have HT5 := Lib.hid (HT2.out.quiet hc5)
    clear hw5 hc5 hX5 hrow hne hl64 hX
    go_wp2_with fail
    refine wp_region_noPanic ?_
    refine wp_region_lastL _ (by kernel_rfl) rfl (by kernel_rfl) (fun w' => w'.cell? ⟨R, 1, none⟩ = some (.slice (some ⟨K, 0, none⟩) n n) ∧ w'.cell? ⟨K, b, none⟩ = some hv ∧ w'.cell? ⟨w.heap.size, 0, none⟩ = some (.int .i64 v.1) ∧ w'.cell? ⟨w.heap.size, 1, none⟩ = some (.int .i64 v.2)) ⟨t1, tH, x0, x1⟩ (fun hHeld => ?_)
    simp only [List.dropLast_cons_cons, List.dropLast_singleton, List.length_cons, List.length_nil]
    refine wpAnyH_take (i := 0) (oi := { dst := some 31, op := _, type := _, pos := _, after := _, guard := _ }) (v := ?v1_0) rfl (by kernel_rfl) (by kernel_rfl) (by kernel_rfl) (by intro _ _ _ h; first | exact h | exact nomatch h.1) (.inl ⟨by rfl, ?h1_0⟩) (by assumption) ?_
    case h1_0 => intro w hSw; obtain ⟨hs0, hs1, hs2, hs3⟩ := hSw; go_simp; (try with_reducible rfl)
    try simp only [Act.put, List.setIfInBounds_toArray, List.set_cons_zero, List.set_cons_succ]
    refine wpAnyH_take (i := 1) (oi := { dst := some 32, op := _, type := _, pos := _, after := _, guard := _ }) (v := ?v2_1) rfl (by kernel_rfl) (by kernel_rfl) (by kernel_rfl) (by intro _ _ _ h; first | exact h | exact nomatch h.1) (.inl ⟨by rfl, ?h2_1⟩) (by assumption) ?_
    case h2_1 => intro w hSw; obtain ⟨hs0, hs1, hs2, hs3⟩ := hSw; go_simp; (try with_reducible rfl)
    try simp only [Act.put, List.setIfInBounds_toArray, List.set_cons_zero, List.set_cons_succ]
    refine wpAnyH_take (i := 2) (oi := { dst := some 33, op := _, type := _, pos := _, after := _, guard := _ }) (v := ?v3_2) rfl (by kernel_rfl) (by kernel_rfl) (by kernel_rfl) (by intro _ _ _ h; first | exact h | exact nomatch h.1) (.inl ⟨by rfl, ?h3_2⟩) (by assumption) ?_
    case h3_2 => intro w hSw; obtain ⟨hs0, hs1, hs2, hs3⟩ := hSw; go_simp; (try with_reducible rfl)
    try simp only [Act.put, List.setIfInBounds_toArray, List.set_cons_zero, List.set_cons_succ]
    refine wpAnyH_take (i := 3) (oi := { dst := some 34, op := _, type := _, pos := _, after := _, guard := _ }) (v := ?v4_3) rfl (by kernel_rfl) (by kernel_rfl) (by kernel_rfl) (by intro _ _ _ h; first | exact h | exact nomatch h.1) (.inl ⟨by rfl, ?h4_3⟩) (by assumption) ?_
    case h4_3 => intro w hSw; obtain ⟨hs0, hs1, hs2, hs3⟩ := hSw; go_simp; (try with_reducible rfl)
    try simp only [Act.put, List.setIfInBounds_toArray, List.set_cons_zero, List.set_cons_succ]
    refine wpAnyH_take (i := 4) (oi := { dst := some 35, op := _, type := _, pos := _, after := _, guard := _ }) (v := ?v5_4) rfl (by kernel_rfl) (by kernel_rfl) (by kernel_rfl) (by intro _ _ _ h; first | exact h | exact nomatch h.1) (.inl ⟨by rfl, ?h5_4⟩) (by assumption) ?_
    case h5_4 => intro w hSw; obtain ⟨hs0, hs1, hs2, hs3⟩ := hSw; go_simp; (try with_reducible rfl)
    try simp only [Act.put, List.setIfInBounds_toArray, List.set_cons_zero, List.set_cons_succ]
    refine wpAnyH_take (i := 5) (oi := { dst := some 36, op := _, type := _, pos := _, after := _, guard := _ }) (v := ?v6_5) rfl (by kernel_rfl) (by kernel_rfl) (by kernel_rfl) (by intro _ _ _ h; first | exact h | exact nomatch h.1) (.inl ⟨by rfl, ?h6_5⟩) (by assumption) ?_
    case h6_5 => intro w hSw; obtain ⟨hs0, hs1, hs2, hs3⟩ := hSw; go_simp; (try with_reducible rfl)
    try simp only [Act.put, List.setIfInBounds_toArray, List.set_cons_zero, List.set_cons_succ]
    refine wpAnyH_take (i := 6) (oi := { dst := some 37, op := _, type := _, pos := _, after := _, guard := _ }) (v := ?v7_6) rfl (by kernel_rfl) (by kernel_rfl) (by kernel_rfl) (by intro _ _ _ h; first | exact h | exact nomatch h.1) (.inl ⟨by rfl, ?h7_6⟩) (by assumption) ?_
    case h7_6 => intro w hSw; obtain ⟨hs0, hs1, hs2, hs3⟩ := hSw; go_simp; (try with_reducible rfl)
    try simp only [Act.put, List.setIfInBounds_toArray, List.set_cons_zero, List.set_cons_succ]
    refine wpAnyH_take (i := 7) (oi := { dst := some 38, op := _, type := _, pos := _, after := _, guard := _ }) (v := ?v8_7) rfl (by kernel_rfl) (by kernel_rfl) (by kernel_rfl) (by intro _ _ _ h; first | exact h | exact nomatch h.1) (.inl ⟨by rfl, ?h8_7⟩) (by assumption) ?_
    case h8_7 => intro w hSw; obtain ⟨hs0, hs1, hs2, hs3⟩ := hSw; go_simp; (try with_reducible rfl)
    try simp only [Act.put, List.setIfInBounds_toArray, List.set_cons_zero, List.set_cons_succ]
    refine wpAnyH_take (i := 8) (oi := { dst := some 39, op := _, type := _, pos := _, after := _, guard := _ }) (v := ?v9_8) rfl (by kernel_rfl) (by kernel_rfl) (by kernel_rfl) (by intro _ _ _ h; first | exact h | exact nomatch h.1) (.inl ⟨by rfl, ?h9_8⟩) (by assumption) ?_
    case h9_8 => intro w hSw; obtain ⟨hs0, hs1, hs2, hs3⟩ := hSw; go_simp; (try with_reducible rfl)
    try simp only [Act.put, List.setIfInBounds_toArray, List.set_cons_zero, List.set_cons_succ]
    refine wpAnyH_take (i := 9) (oi := { dst := some 40, op := _, type := _, pos := _, after := _, guard := _ }) (v := ?v10_9) rfl (by kernel_rfl) (by kernel_rfl) (by kernel_rfl) (by intro _ _ _ h; first | exact h | exact nomatch h.1) (.inl ⟨by rfl, ?h10_9⟩) (by assumption) ?_
    case h10_9 => intro w hSw; obtain ⟨hs0, hs1, hs2, hs3⟩ := hSw; go_simp; (try with_reducible rfl)
    try simp only [Act.put, List.setIfInBounds_toArray, List.set_cons_zero, List.set_cons_succ]
    refine wpAnyH_take (i := 10) (oi := { dst := some 41, op := _, type := _, pos := _, after := _, guard := _ }) (v := ?v11_10) rfl (by kernel_rfl) (by kernel_rfl) (by kernel_rfl) (by intro _ _ _ h; first | exact h | exact nomatch h.1) (.inl ⟨by rfl, ?h11_10⟩) (by assumption) ?_
    case h11_10 => intro w hSw; obtain ⟨hs0, hs1, hs2, hs3⟩ := hSw; go_simp; (try with_reducible rfl)
    try simp only [Act.put, List.setIfInBounds_toArray, List.set_cons_zero, List.set_cons_succ]
    refine wpAnyH_take (i := 11) (oi := { dst := some 42, op := _, type := _, pos := _, after := _, guard := _ }) (v := ?v12_11) rfl (by kernel_rfl) (by kernel_rfl) (by kernel_rfl) (by intro _ _ _ h; first | exact h | exact nomatch h.1) (.inl ⟨by rfl, ?h12_11⟩) (by assumption) ?_
    case h12_11 => intro w hSw; obtain ⟨hs0, hs1, hs2, hs3⟩ := hSw; go_simp; (try with_reducible rfl)
    try simp only [Act.put, List.setIfInBounds_toArray, List.set_cons_zero, List.set_cons_succ]
    refine wpAnyH_take (i := 12) (oi := { dst := some 43, op := _, type := _, pos := _, after := _, guard := _ }) (v := ?v13_12) rfl (by kernel_rfl) (by kernel_rfl) (by kernel_rfl) (by intro _ _ _ h; first | exact h | exact nomatch h.1) (.inl ⟨by rfl, ?h13_12⟩) (by assumption) ?_
    case h13_12 => intro w hSw; obtain ⟨hs0, hs1, hs2, hs3⟩ := hSw; go_simp; (try with_reducible rfl)
    try simp only [Act.put, List.setIfInBounds_toArray, List.set_cons_zero, List.set_cons_succ]
    refine wpAnyH_take (i := 13) (oi := { dst := some 44, op := _, type := _, pos := _, after := _, guard := _ }) (v := ?v14_13) rfl (by kernel_rfl) (by kernel_rfl) (by kernel_rfl) (by intro _ _ _ h; first | exact h | exact nomatch h.1) (.inl ⟨by rfl, ?h14_13⟩) (by assumption) ?_
    case h14_13 => intro w hSw; obtain ⟨hs0, hs1, hs2, hs3⟩ := hSw; go_simp; (try with_reducible rfl)
    try simp only [Act.put, List.setIfInBounds_toArray, List.set_cons_zero, List.set_cons_succ]
    refine wpAnyH_take (i := 14) (oi := { dst := some 45, op := _, type := _, pos := _, after := _, guard := _ }) (v := ?v15_14) rfl (by kernel_rfl) (by kernel_rfl) (by kernel_rfl) (by intro _ _ _ h; first | exact h | exact nomatch h.1) (.inl ⟨by rfl, ?h15_14⟩) (by assumption) ?_
    case h15_14 => intro w hSw; obtain ⟨hs0, hs1, hs2, hs3⟩ := hSw; go_simp; (try with_reducible rfl)
    try simp only [Act.put, List.setIfInBounds_toArray, List.set_cons_zero, List.set_cons_succ]
    refine wpAnyH_ready (rs := [15]) (by kernel_rfl) (by simp) ?_
    refine AllReadyH.cons (o := { dst := some 46, op := _, type := _, pos := _, after := _, guard := _ }) rfl (fun K hK => ?_) AllReadyH.nil
    go_simp
    refine hK.out _ _ ⟨a1, aH, y0, y1⟩ (fun hHeld => ?_)
    clear hK K
    try simp only [Act.put, List.setIfInBounds_toArray, List.set_cons_zero, List.set_cons_succ]
    clear a1 aH t1 tH fH x0 x1 y0 y1
    refine wpAnyH_ready (rs := [16]) (by kernel_rfl) (by simp) ?_
    refine AllReadyH.cons (o := { dst := some 47, op := _, type := _, pos := _, after := _, guard := _ }) rfl (fun K hK => ?_) AllReadyH.nil
    go_simp
    rw [← HX.out, ← HW5.out]; with_reducible refine HIns.out.mono ?_; rintro e w6 ⟨v', rfl, hrow6, hg6, hat6⟩; have hg7 := hg6; rw [HHv.out] at hg7; obtain ⟨e1, e2, f2⟩ := HT5.out.still hbn hg7; rw [← HHv.out] at e2; have z0 := hg7.cell HBx5.out.c0 (fun e => absurd e.symm (HNb.out b hbn)); have z1 := hg7.cell HBx5.out.c1 (fun e => absurd e.symm (HNb.out b hbn)); have HR6 := Lib.hid hrow6; have HG6 := Lib.hid hg7; have HA6 := Lib.hid hat6; obtain ⟨a6, c6, rfl⟩ := own_form hrow6; clear hrow6 hg6 hat6 hg7
    refine hK.out _ _ ⟨e1, e2, z0, z1⟩ (fun hHeld => ?_)
    clear hK K
    try simp only [Act.put, List.setIfInBounds_toArray, List.set_cons_zero, List.set_cons_succ]
    refine wpAnyH_take (i := 17) (oi := { dst := some 48, op := _, type := _, pos := _, after := _, guard := _ }) (v := ?v16_17) rfl (by kernel_rfl) (by kernel_rfl) (by kernel_rfl) (by intro _ _ _ h; first | exact h | exact nomatch h.1) (.inl ⟨by rfl, ?h16_17⟩) (by assumption) ?_
    case h16_17 => intro w hSw; obtain ⟨hs0, hs1, hs2, hs3⟩ := hSw; go_simp; (try with_reducible rfl)
    try simp only [Act.put, List.setIfInBounds_toArray, List.set_cons_zero, List.set_cons_succ]
    refine wpAnyH_done (by kernel_rfl) ?_ _
    unfold lastPost
    simp only []
    go_simp
    refine NoPanic.normal ?_
    go_wp2
    go_ret2
    have hcn : chn n b (⟨k, v⟩ :: L) = ⟨k, v⟩ :: chn n b L := by rw [← HBk.out]; exact chn_cons (n := n) (⟨k, v⟩ : E) L
    obtain ⟨h1, h2⟩ := HT5.out.upd (L' := ⟨k, v⟩ :: L) hbn (fun i hi => chn_cons_other (by rw [HBk.out]; exact hi) L) (by rw [hcn]; exact HR6.out) HG6.out (by
      rcases HA6.out with h | h
      · exact .inl (by rw [← HHv.out]; exact h)
      · exact .inr ⟨_, h, Nat.le_refl _⟩) (List.nodup_cons.2 ⟨HNo.out, HT5.out.nd⟩) (by have := HM.out; simp; omega)
    exact ⟨rfl, ⟨_, h1⟩, (Tn.of_ch (HC2.out.trans HC5.out)).trans h2⟩
  · exact absurd hat.val.2.1 hk
end Go.Proofs.YtalhlopjaijhcaaGreat.bH

namespace Go.Proofs.YtalhlopjaijhcaaGreat.bH
open Go.RowKit Go.Shelf

attribute [local go_sem] Oper.semAt_some

theorem map_range (C : List E) : (List.range C.length).map (kA C) = ksE C := by
  apply List.ext_getElem?
  intro j
  by_cases hj : j < C.length
  · have h : C[j]? = some C[j] := List.getElem?_eq_getElem hj
    rw [List.getElem?_map, List.getElem?_range hj]
    simp [kA_at h, ksE, h]
  · simp [ksE, hj]

set_option maxRecDepth 100000 in
set_option maxHeartbeats 2000000 in
theorem chain_in (f S n : Nat) (p : Option Addr) (z : Int) (L : List E) (w : World) (hT : TG w S p n L) :
    CallsIn Fence.wide (f + 6) Tryz.prog 78 #[.pointer p, .int .i64 z] w fun e W' =>
      ∃ v, e = .returned v ∧ W'.ownsRow w.heap.size 40 1 v (chI n L z).length (u64s (ksE (chI n L z))) ∧ Ch [] w W' := by
  have HT := Lib.hid hT
  obtain ⟨C, hC⟩ : ∃ C, C = chI n L z := ⟨_, rfl⟩
  rw [← hC]
  have hC64 : C.length ≤ 64 := by rw [hC]; exact Nat.le_trans (chI_len n L z) hT.le.2
  clear hT
  have hw : ∀ f, Fence.wide.fn f := fun _ => trivial
  have hd : Fence.wide.depth = none := rfl
  have h1 : 1 ≤ f + 6 := by omega
  obtain ⟨i0, hi, hz0, hz1, hz2⟩ := info_parts infoU
  refine callsIn_of_wp_marks Tryz.func78 rfl trivial ?_ rfl
  simp only [Tryz.ntmps78, List.size_toArray, List.length_cons, List.length_nil, Nat.reduceAdd, Nat.reduceSub, Array.replicate_succ, Array.replicate_zero, List.push_toArray, List.append_toArray, List.nil_append, List.cons_append]
  gi_wp2_with (first
    | (gi_at_call 105; refine (places_in _ _ _ _).mono ?_; rintro e w' ⟨rfl, rfl⟩)
    | fail)
  obtain ⟨V1, hV1⟩ : ∃ V, V = w.alloc (.cells #[.slice none 0 0] 26) := ⟨_, rfl⟩
  obtain ⟨V2, hV2⟩ : ∃ V, V = V1.alloc (.cells #[.pointer p] 77) := ⟨_, rfl⟩
  obtain ⟨W0, hW0⟩ : ∃ V, V = V2.alloc (.cells #[.int .i64 z] 3) := ⟨_, rfl⟩
  have s1 : V1.heap.size = w.heap.size + 1 := by rw [hV1]; simp
  have s2 : V2.heap.size = w.heap.size + 1 + 1 := by rw [hV2]; simp [s1]
  have hsz : W0.heap.size = w.heap.size + 1 + 1 + 1 := by rw [hW0]; simp [s2]
  have hc0 : Ch [] w W0 := by rw [hW0, hV2, hV1]; exact (((Ch.refl [] w).alloc _).alloc _).alloc _
  have q0 : Boxed W0 w.heap.size 26 (.slice none 0 0) := by rw [hW0, hV2, hV1]; exact ((Boxed.new w _ _).alloc _).alloc _
  have q1 : Boxed W0 (w.heap.size + 1) 77 (.pointer p) := by rw [hW0, hV2, ← s1]; exact (Boxed.new V1 _ _).alloc _
  have q2 : Boxed W0 (w.heap.size + 1 + 1) 3 (.int .i64 z) := by rw [hW0, ← s2]; exact Boxed.new V2 _ _
  rw [← hV1, ← hV2, ← hW0]
  clear hV1 hV2 hW0 s1 s2
  have hseq := places_stops (f + 6 - 1) W0 q2.cell q1.cell (HT.out.quiet hc0)
  rw [← hC] at hseq
  clear hC
  refine wpIn_range_p rfl h1 (gf := 128) (lb := #[.pointer (some ⟨w.heap.size + 1 + 1, 0, none⟩), .pointer (some ⟨w.heap.size + 1, 0, none⟩)]) rfl trivial (enters_of Tryz.func128 (by kernel_rfl) rfl)
    hseq
    (fun A B hAB k o hk _ _ => (hAB.block k (Array.getElem?_eq_some_iff.1 hk).1 (by simp)).trans hk)
    (fun h g => h.trans g) (fun W l o o' _ ho hc _ _ => KpT.put W l o o' ho hc) (fun _ => rfl)
    (fun pre W => (∃ v, Boxed W w.heap.size 26 v ∧ W.ownsRow w.heap.size 40 1 v pre.length (u64s (pre.map (kA C))) ∧ True) ∧ Ch [] w W)
    (fun _ _ _ => False)
    (OwnFrom.and (Own.from (holdsRow_own w.heap.size w.heap.size 26 40 1 (fun pre : List Nat => pre.length) (fun pre => u64s (pre.map (kA C))) (fun _ _ => True)) _) (ownFrom_ch (by omega)))
    (fun s A B' hs hc => by
      obtain ⟨⟨v, hv, hr, _⟩, hq⟩ := hs
      exact ⟨⟨v, hv.kept hc.grown0 (by simp), own_ch hr hc (by simp), trivial⟩, hq.trans hc⟩)
    (fun _ _ _ _ _ hs _ _ => hs)
    ⟨⟨_, q0, World.ownsRow_nil _ _ _ _, trivial⟩, hc0⟩
    (fun x => { tmps := #[.pointer p, .int .i64 z, undef, undef, .slice none 0 0, .pointer (some ⟨w.heap.size, 0, none⟩), undef, .int .u64 ((kA C x : Nat) : Int), .pointer p, .int .i64 z, .func (.func 128) #[] #[.pointer (some ⟨w.heap.size + 1 + 1, 0, none⟩), .pointer (some ⟨w.heap.size + 1, 0, none⟩)], .int .i64 (x : Int), .int .u64 ((kA C x : Nat) : Int), undef, undef, undef, undef, undef], defers := [] }) ?assign ?body ?done ?stop
  case assign =>
    intro l x W K hK
    gi_wp2
    exact hK
  case body =>
    rintro l pre x W ⟨⟨v, hv, hrow, _⟩, hq⟩ hpre
    have hc := hv.cell
    have hlt : pre.length < 64 := by have := not_last hpre; omega
    obtain ⟨y, hy⟩ : ∃ y, kA C x = y := ⟨_, rfl⟩
    have HM := Lib.hid (show (pre ++ [x]).map (kA C) = pre.map (kA C) ++ [y] by rw [List.map_append, ← hy]; rfl)
    rw [hy]
    clear hy
    gi_wp2_with (gi_at_builtin; refine wpListIn_append_own _ rfl _ _ 26 rfl w.heap.size 40 i0 (.int .u64 0) 1 8 Tryz.underlying26 hi hz0 hz1 hz2 rfl (by decide) _ _ _ rfl (hrow.alloc _) ⟨W.heap.size, 0, none⟩ 1 1 [.int .u64 (y : Int)] rfl rfl (cell_one_new _ _ _) (by simp [Value.oneCell']) (by unfold maxLen; omega) (by omega) (by have := hq.size; simp; omega) ?_; intro v' w3 hown' hgrow _; obtain ⟨g', cap', rfl⟩ := ownsRow_succ hown'; obtain ⟨hv1, hv2, hr2, hk2, hb2⟩ := hv.appended (by decide) hrow hq.size (by omega) hown' hgrow; have hc1 := hv1.cell; have hf1 := hv1.frozen)
    refine ⟨hk2.from _, ?_, ⟨_, hv2, by rw [HM.out]; simpa [u64s] using hr2, trivial⟩, Ch.of_below ((hq.below w.heap.size (by simp) (Nat.le_refl _)).trans hb2)⟩
    exact (((KpT.ch ((Ch.refl [] W).alloc _)).grown (hrow.alloc _) (by decide) hgrow).set hv1 (by decide) _)
  case done =>
    rintro D ys W hD rfl ⟨⟨v, hv, hrow, _⟩, hq⟩ hK
    have hc := hv.cell
    gi_wp2
    refine ⟨by simp, .inl ⟨_, _, rfl, run_takeDeferred hK, ?_⟩⟩
    rw [map_range, List.length_range] at hrow
    exact ⟨_, results_tmp rfl _ _ _, v, rfl, ownsRow_putObj hrow _ hK rfl, (ownFrom_ch (β := Unit) (w := w) (Nat.le_refl _)) () W _ (some D) hq (grownBy_putObj' W D _) (fun r e => by cases e; exact ⟨by omega, _, hK, rfl⟩)⟩
  case stop =>
    rintro D c pre W _ _ h _
    exact h.elim
theorem chain_any {S n : Nat} {p : Option Addr} {L : List E} (z : Int) {w : World} (hT : TG w S p n L) :
    Calls Tryz.prog 78 #[.pointer p, .int .i64 z] w fun e W' =>
      ∃ v, e = .returned v ∧ W'.ownsRow w.heap.size 40 1 v (chI n L z).length (u64s (ksE (chI n L z))) ∧ Ch [] w W' := callsIn_wide.1 (chain_in 0 S n p z L w hT)

set_option maxRecDepth 100000 in
set_option maxHeartbeats 2000000 in
theorem keys_any {S n : Nat} {p : Option Addr} {L : List E} {w : World} (hT : TG w S p n L) :
    Calls Tryz.prog 49 #[.pointer p] w fun e W' =>
      ∃ v, e = .returned v ∧ W'.ownsRow w.heap.size 40 1 v (keysE n L).length (u64s (keysE n L)) ∧ Ch [] w W' := by
  have HB := Lib.hid (buckets_any hT)
  have HT := Lib.hid hT
  have hn64 := hT.le.1
  have HLe := Lib.hid (show ∀ m, m ≤ n → lenE n L m ≤ 64 from fun m hm => by
    rcases hT with ⟨_, rfl, rfl⟩ | ⟨R, K, room, H, rfl, h⟩
    · rw [lenE_nil]; omega
    · have h1 := lenE_le (n := n) L (m := m) (n - m)
      rw [show m + (n - m) = n by omega, lenE_all (by have := h.hn; omega)] at h1
      have := h.hl; have := h.hr; omega)
  obtain ⟨i0, hi, hz0, hz1, hz2⟩ := info_parts infoU
  have HK := Lib.hid (show keysE n L = keysN n L n from rfl)
  clear hT
  go_enter Tryz.func49, Tryz.ntmps49
  go_wp2_with fail
  with_reducible refine HB.out.mono ?_
  rintro e w1 ⟨rfl, hw1⟩
  subst w1
  go_wp2_with fail
  go_loopw [3, 7] (fun lv iv wr => ∃ j : Nat, j ≤ n ∧ iv = .int .i64 (j : Int) ∧ wr.ownsRow w.heap.size 40 1 lv (keysN n L j).length (u64s (keysN n L j)) ∧ Ch [] w wr) (fun _ iv _ => n - (intOf iv).toNat)
  case atStart => exact ⟨0, Nat.zero_le _, rfl, World.ownsRow_nil _ _ _ _, Ch.refl _ _⟩
  case round =>
    obtain ⟨j, hj, rfl, hrow, hc⟩ := hrel
    have HR := Lib.hid hrow
    have HC := Lib.hid hc
    clear hrow hc
    by_cases hlt : j < n
    · have HCh := chain_any (j : Int) (HT.out.quiet HC.out)
      rw [chI_in hlt] at HCh
      have HCh := Lib.hid HCh
      have hl1 := HLe.out (j + 1) (by omega)
      have hl2 : lenE n L (j + 1) = lenE n L j + (chn n j L).length := rfl
      have HS := Lib.hid (keysN_succ n L j)
      have hkl := keysN_len n L j
      obtain ⟨c, hcn⟩ : ∃ c, c = (chn n j L).length := ⟨_, rfl⟩
      obtain ⟨q, hq⟩ : ∃ q, q = (keysN n L j).length := ⟨_, rfl⟩
      have HR2 := HR.out
      rw [← hq] at hkl HR2
      rw [← hcn] at HCh hl2
      have HR2 := Lib.hid HR2
      have hb : q + c ≤ 64 := by omega
      have HLen := Lib.hid (show (keysN n L (j + 1)).length = q + c by rw [keysN_len]; omega)
      have HV := Lib.hid (show u64s (keysN n L (j + 1)) = u64s (keysN n L j) ++ u64s (ksE (chn n j L)) by rw [HS.out, u64s_append])
      clear hl1 hl2 hkl hcn hq
      go_wp2_with fail
      with_reducible refine HCh.out.mono ?_
      rintro e w2 ⟨x, rfl, hrx, hcx⟩
      have hr2 := own_ch HR2.out hcx (by simp)
      have HC2 := Lib.hid (HC.out.trans hcx)
      have hsz := HC2.out.size
      rcases hrx.2 with ⟨rfl, h0⟩ | ⟨g, cx, cur, rfl, _⟩
      · have HZ := Lib.hid (show ksE (chn n j L) = [] by
          have h2 := hrx.1
          rw [u64s_len, h0] at h2
          exact List.length_eq_zero_iff.1 (by omega))
        have HR3 := Lib.hid hr2
        have HR2' := Lib.hid (show w2.ownsRow w.heap.size 40 1 u3 (keysN n L j).length (u64s (keysN n L j)) from own_ch HR.out hcx (by simp))
        clear hcx hrx HCh h0
        go_wp2_with (first | (at_builtin; refine wpList_append_own_none rfl _ _ 26 rfl w.heap.size 40 i0 1 Tryz.underlying26 hi _ q _ rfl HR3.out rfl ?_) | fail)
        go_roundw
        case rel => exact ⟨j + 1, by omega, by go_num, by rw [HV.out, HS.out, HZ.out, List.append_nil]; simpa [u64s] using HR2'.out, HC2.out⟩
        case measure => simp [intOf]; omega
      · have hcells := hrx.cells (g := g) rfl
        have HLo := Lib.hid (fun r (e : u3.ownBlock = some r) => (hr2.lt r e).1)
        have HX1 := Lib.hid (show (u64s (ksE (chn n j L))).length = c * 1 by rw [hrx.1])
        clear hcx hrx HCh
        go_wp2_with (first | (at_builtin; refine wpList_append_own _ rfl _ _ 26 rfl w.heap.size 40 i0 (.int .u64 0) 1 8 Tryz.underlying26 hi hz0 hz1 hz2 rfl (by decide) _ q _ rfl hr2 ⟨g, 0, none⟩ c cx (u64s (ksE (chn n j L))) rfl HX1.out hcells (u64s_one _) (by unfold maxLen; omega) (by omega) hsz ?_; intro v' w3 hown' hgrow _; have HO := Lib.hid hown'; have HG3 := Lib.hid hgrow; clear hown' hgrow) | fail)
        go_roundw
        case rel => exact ⟨j + 1, by omega, by go_num, by rw [HLen.out, HV.out]; exact HO.out, HC2.out.kept HG3.out HLo.out⟩
        case measure => simp [intOf]; omega
    · obtain rfl : j = n := by omega
      go_wp2
      go_ret
      exact ⟨_, rfl, by rw [HK.out]; exact HR.out, HC.out⟩
end Go.Proofs.YtalhlopjaijhcaaGreat.bH

namespace Go.Proofs.YtalhlopjaijhcaaGreat.bH
open Go.RowKit Go.Shelf

attribute [local go_sem] Oper.semAt_some

/-- Keys in memory. -/
def KU (w : World) (a : Option Addr) (zs : List Nat) : Prop := zs = [] ∨ ∃ b off, a = some ⟨b, off, none⟩ ∧ ∀ (j k : Nat), zs[j]? = some k → w.cell? ⟨b, off + j, none⟩ = some (.int .u64 (k : Int))

/-- What holds ahead of each round. -/
structure DR (w : World) (S : Nat) (p : Option Addr) (n room : Nat) (L0 : List E) (zs : List Nat) (A i c : Nat) (L : List E) (ds : List Deferred) (W : World) : Prop where
  t : TGR W S p n room L
  tn : Tn S w W
  bt : Boxed W A 77 (.pointer p)
  bc : Boxed W (A + 1) 3 (.int .i64 (c : Int))
  m : Marks w.heap.size W.heap.size W ds
  d : delsE L0 zs = ((delsE L (zs.drop i)).1, c + (delsE L (zs.drop i)).2)

set_option maxRecDepth 100000 in
set_option maxHeartbeats 8000000 in
theorem del_in (f S n room : Nat) (p : Option Addr) (L : List E) (a : Option Addr) (len cap : Nat) (zs : List Nat) (w : World) (hT : TGR w S p n room L) (hSw : S ≤ w.heap.size) (hlen : len = zs.length) (hmax : len ≤ 1000) (hK : ∀ W, Tn S w W → KU W a zs) :
    CallsIn Fence.wide (f + 8) Tryz.prog 94 #[.pointer p, .slice a len cap] w fun e W' =>
      e = .returned (.int .i64 (((delsE L zs).2 : Nat) : Int)) ∧ TGR W' S p n room (delsE L zs).1 ∧ Tn S w W' := by
  have HT := Lib.hid hT
  have HK := Lib.hid hK
  have HSw := Lib.hid hSw
  have HLen := Lib.hid hlen
  clear hT hK hSw hlen
  have hw : ∀ f, Fence.wide.fn f := fun _ => trivial
  have hd : Fence.wide.depth = none := rfl
  have h1 : 1 ≤ f + 8 := by omega
  refine callsIn_of_wp_marks Tryz.func94 rfl trivial ?_ rfl
  simp only [Tryz.ntmps94, List.size_toArray, List.length_cons, List.length_nil, Nat.reduceAdd, Nat.reduceSub, Array.replicate_succ, Array.replicate_zero, List.push_toArray, List.append_toArray, List.nil_append, List.cons_append]
  gi_wp2
  rw [wpIn_wide]
  refine wp_scope_straight ?_
  rw [← wpIn_wide (n := f + 8)]
  gi_wp2
  refine wpIn_label ?_
  gi_wp2
  obtain ⟨V1, hV1⟩ : ∃ V, V = w.alloc (.cells #[.pointer p] 77) := ⟨_, rfl⟩
  obtain ⟨V2, hV2⟩ : ∃ V, V = V1.alloc (.cells #[.int .i64 0] 3) := ⟨_, rfl⟩
  have s1 : V1.heap.size = w.heap.size + 1 := by rw [hV1]; simp
  have hc2 : Ch [] w V2 := by rw [hV2, hV1]; exact ((Ch.refl [] w).alloc _).alloc _
  have HS0 := Lib.hid (show DR w S p n room L zs w.heap.size 0 0 L [] V2 from
    ⟨HT.out.quiet hc2, Tn.of_ch hc2, by rw [hV2, hV1]; exact (Boxed.new w _ _).alloc _, by rw [hV2, ← s1]; exact Boxed.new V1 _ _, trivial, by simp⟩)
  rw [← hV1, ← hV2]
  clear hV1 hV2 s1 hc2
  refine wpIn_loop_ghost_k (fun m a' W => ∃ (u7 u8 u9 u10 u14 u15 u16 u17 u18 u19 u20 u21 u22 u23 u24 u25 u26 u27 u28 u29 u30 u31 u32 u33 u34 u35 u36 u37 u38 u39 u40 u41 u42 u43 u44 u45 u46 u47 : Value) (i c : Nat) (L' : List E) (ds : List Deferred), i + m = len ∧ DR w S p n room L zs w.heap.size i c L' ds W ∧ a' = { tmps := #[.pointer p, .slice a len cap, .pointer (some ⟨w.heap.size, 0, none⟩), undef, .int .i64 0, .pointer (some ⟨w.heap.size + 1, 0, none⟩), undef, u7, u8, u9, u10, .slice a len cap, .int .i64 (len : Int), .int .i64 (i : Int), u14, u15, u16, u17, u18, u19, u20, u21, u22, u23, u24, u25, u26, u27, u28, u29, u30, u31, u32, u33, u34, u35, u36, u37, u38, u39, u40, u41, u42, u43, u44, u45, u46, u47, undef], defers := ds }) len ⟨_, _, _, _, _, _, _, _, _, _, _, _, _, _, _, _, _, _, _, _, _, _, _, _, _, _, _, _, _, _, _, _, _, _, _, _, _, _, 0, 0, L, [], by omega, HS0.out, rfl⟩ ?_
  intro m a' W hI J K hJ hK
  obtain ⟨u7, u8, u9, u10, u14, u15, u16, u17, u18, u19, u20, u21, u22, u23, u24, u25, u26, u27, u28, u29, u30, u31, u32, u33, u34, u35, u36, u37, u38, u39, u40, u41, u42, u43, u44, u45, u46, u47, i, c, L', ds, him, hS, rfl⟩ := hI
  have HJ := Lib.hid hJ
  have HK2 := Lib.hid hK
  have HS := Lib.hid hS
  clear hJ hK hS HS0
  have hgone := HS.out.bc.cell
  by_cases hlt : i < len
  · obtain ⟨k, hk⟩ : ∃ k, zs[i]? = some k := ⟨_, List.getElem?_eq_getElem (by rw [← HLen.out]; exact hlt)⟩
    obtain ⟨kb, koff, rfl, hkc⟩ : ∃ kb koff, a = some ⟨kb, koff, none⟩ ∧ W.cell? ⟨kb, koff + i, none⟩ = some (.int .u64 (k : Int)) := by
      rcases HK.out W HS.out.tn with h0 | ⟨kb, koff, h1, h2⟩
      · rw [h0] at hk; simp at hk
      · exact ⟨kb, koff, h1, h2 i k hk⟩
    have HKi := Lib.hid hk
    have hi0 : (0 : Int) ≤ (i : Int) := by omega
    have hi1 : (i : Int) < (len : Int) := by omega
    have HB := Lib.hid (fun V (hV : Ch [] W V) => bucket_any (HS.out.t.tg.quiet hV) k)
    obtain ⟨b, hb⟩ : ∃ b, bk n k = b := ⟨_, rfl⟩
    rw [hb] at HB
    have HBk := Lib.hid hb
    have cp := HS.out.bt.cell
    have cpl := HS.out.bt.lt
    have HSz := Lib.hid (show w.heap.size + 1 < W.heap.size from HS.out.bc.lt)
    have cp1 := (HS.out.bt.alloc (.cells #[.int .u64 (k : Int)] 40)).cell
    have cp2 := ((HS.out.bt.alloc (.cells #[.int .u64 (k : Int)] 40)).alloc (.cells #[.int .i64 (b : Int)] 3)).cell
    clear hb hk
    refine wpIn_seq_k (fun K1 hK1 => ?_)
    have HK1 := Lib.hid hK1
    clear hK1
    gi_wp2
    refine HK1.out _ _ ?_
    clear HK1
    refine wpIn_seq_k (fun K1 hK1 => ?_)
    have HK1 := Lib.hid hK1
    clear hK1
    gi_wp2
    refine HK1.out _ _ ?_
    clear HK1
    refine wpIn_seq_k (fun K1 hK1 => ?_)
    have HK1 := Lib.hid hK1
    clear hK1
    gi_wp2_with (first
      | (gi_at_call 100; refine (callsIn_wide.2 (HB.out _ ((Ch.refl [] W).alloc _))).mono ?_; rintro e w' ⟨rfl, rfl⟩)
      | (gi_at_call 105; refine (places_in _ _ _ _).mono ?_; rintro e w' ⟨rfl, rfl⟩)
      | fail)
    obtain ⟨X, hX⟩ : ∃ X, W.heap.size = X := ⟨_, rfl⟩
    obtain ⟨U1, hU1⟩ : ∃ V, V = W.alloc (.cells #[.int .u64 (k : Int)] 40) := ⟨_, rfl⟩
    obtain ⟨U2, hU2⟩ : ∃ V, V = U1.alloc (.cells #[.int .i64 (b : Int)] 3) := ⟨_, rfl⟩
    obtain ⟨U3, hU3⟩ : ∃ V, V = U2.alloc (.cells #[.pointer p] 77) := ⟨_, rfl⟩
    obtain ⟨W0, hW0⟩ : ∃ V, V = U3.alloc (.cells #[.int .i64 (b : Int)] 3) := ⟨_, rfl⟩
    have s1 : U1.heap.size = X + 1 := by rw [hU1]; simp [hX]
    have s2 : U2.heap.size = X + 1 + 1 := by rw [hU2]; simp [s1]
    have s3 : U3.heap.size = X + 1 + 1 + 1 := by rw [hU3]; simp [s2]
    have hsz : W0.heap.size = X + 1 + 1 + 1 + 1 := by rw [hW0]; simp [s3]
    have hc0 : Ch [] W W0 := by rw [hW0, hU3, hU2, hU1]; exact ((((Ch.refl [] W).alloc _).alloc _).alloc _).alloc _
    have q1 : Boxed W0 X 40 (.int .u64 (k : Int)) := by rw [hW0, hU3, hU2, hU1, ← hX]; exact (((Boxed.new W _ _).alloc _).alloc _).alloc _
    have q2 : Boxed W0 (X + 1) 3 (.int .i64 (b : Int)) := by rw [hW0, hU3, hU2, ← s1]; exact ((Boxed.new U1 _ _).alloc _).alloc _
    have q3 : Boxed W0 (X + 1 + 1) 77 (.pointer p) := by rw [hW0, hU3, ← s2]; exact (Boxed.new U2 _ _).alloc _
    have q4 : Boxed W0 (X + 1 + 1 + 1) 3 (.int .i64 (b : Int)) := by rw [hW0, ← s3]; exact Boxed.new U3 _ _
    rw [hX, ← hU1, ← hU2, ← hU3, ← hW0]
    clear hU1 hU2 hU3 hW0 s1 s2 s3
    have HC0 := Lib.hid hc0
    have HXw := Lib.hid hX
    have qt : Boxed W0 w.heap.size 77 (.pointer p) := boxed_ch HS.out.bt hc0 (by simp)
    have qc : Boxed W0 (w.heap.size + 1) 3 (.int .i64 (c : Int)) := boxed_ch HS.out.bc hc0 (by simp)
    have HM0 := Lib.hid (show Marks w.heap.size W0.heap.size W0 ds from (HS.out.m.ch hc0 (by simp)).keep hc0.size (fun _ _ _ h => h))
    have HTn0 := Lib.hid (HS.out.tn.trans (Tn.of_ch hc0))
    obtain ⟨C, hC⟩ : ∃ C, C = chI n L' (b : Int) := ⟨_, rfl⟩
    have hseq := places_stops (f + 8 - 1) W0 q4.cell q3.cell (HS.out.t.quiet hc0).tg
    rw [← hC] at hseq
    have HC := Lib.hid hC
    clear hC hc0 hX
    refine wpIn_range_p rfl h1 (gf := 128) (lb := #[.pointer (some ⟨X + 1 + 1 + 1, 0, none⟩), .pointer (some ⟨X + 1 + 1, 0, none⟩)]) rfl trivial (enters_of Tryz.func128 (by kernel_rfl) rfl)
      hseq
      (fun A B hAB k o hk _ _ => (hAB.block k (Array.getElem?_eq_some_iff.1 hk).1 (by simp)).trans hk)
      (fun h g => h.trans g) (fun W l o o' _ ho hc _ _ => KpT.put W l o o' ho hc) (fun _ => rfl)
      (fun pre W => Ch [] W0 W ∧ ∀ j ∈ pre, kA C j ≠ k)
      (fun co pre W' => co = .exit 1 ∧ k ∈ ksE L' ∧ TGR W' S p n room (delE L' k) ∧ Tn S w W' ∧ Boxed W' w.heap.size 77 (.pointer p) ∧ Boxed W' (w.heap.size + 1) 3 (.int .i64 ((c + 1 : Nat) : Int)) ∧ Marks w.heap.size W0.heap.size W' ds)
      (OwnFrom.and (ownFrom_chS (Nat.le_refl _)) (ownFrom_pure _ (fun pre : List Nat => ∀ j ∈ pre, kA C j ≠ k)))
      (fun s A B hs hc => ⟨hs.1.trans hc, hs.2⟩)
      (fun co s W1 W2 row hs hg hr => by
        obtain ⟨g1, g2, g3, g4, g5, g6, g7⟩ := hs
        exact ⟨g1, g2, g3.ck (CK.grown hg (fun r e => (hr r e).2)), g4.later hg (fun r e => by have := (hr r e).1; have := HSz.out; have := HXw.out; omega), g5.kept hg (fun e => by have := (hr _ e.symm).1; have := HSz.out; have := HXw.out; omega),
          g6.kept hg (fun e => by have := (hr _ e.symm).1; have := HSz.out; have := HXw.out; omega), Marks.own (β := Unit) () W1 W2 row g7 hg hr⟩)
      ⟨Ch.refl _ _, by simp⟩
      (fun x => { tmps := #[.pointer p, .slice (some ⟨kb, koff, none⟩) len cap, .pointer (some ⟨w.heap.size, 0, none⟩), undef, .int .i64 0, .pointer (some ⟨w.heap.size + 1, 0, none⟩), undef, .pointer (some ⟨X, 0, none⟩), .pointer (some ⟨X + 1, 0, none⟩), .int .i64 (x : Int), .int .u64 ((kA C x : Nat) : Int), .slice (some ⟨kb, koff, none⟩) len cap, .int .i64 (len : Int), .int .i64 (i : Int), .bool true, .pointer (some ⟨kb, koff + i, none⟩), .int .u64 (k : Int), .pointer p, .int .u64 (k : Int), .int .i64 (b : Int), .pointer p, .int .i64 (b : Int), .func (.func 128) #[] #[.pointer (some ⟨X + 1 + 1 + 1, 0, none⟩), .pointer (some ⟨X + 1 + 1, 0, none⟩)], .int .i64 (x : Int), .int .u64 ((kA C x : Nat) : Int), u25, u26, u27, u28, u29, u30, u31, u32, u33, u34, u35, u36, u37, u38, u39, u40, u41, u42, u43, u44, u45, u46, u47, undef], defers := [] }) ?assign ?body ?done ?stop
    case assign =>
      intro l x W K hK
      gi_wp2
      exact hK
    case body =>
      rintro l pre x W' ⟨hq, hno⟩ hpre
      obtain ⟨hx, hxm⟩ := not_last hpre
      have c1 := (boxed_ch q1 hq (by simp)).cell
      obtain ⟨e, he⟩ : ∃ e, C[x]? = some e := ⟨_, List.getElem?_eq_getElem hxm⟩
      have hka := kA_at he
      obtain ⟨y, hy⟩ : ∃ y, kA C x = y := ⟨_, rfl⟩
      rw [hy] at hka ⊢
      have HY := Lib.hid hy
      have HQ := Lib.hid hq
      by_cases hk : y = k
      · subst hk
        rcases HS.out.t with ⟨_, h0, hL0⟩ | ⟨R, K, H, rfl, ht⟩
        · rw [HC.out, hL0] at he
          unfold chI at he
          split at he <;> cases he
        have hbn : b < n := by
          rw [← HBk.out]
          exact bk_lt (by have := ht.hn; omega) _
        have hCe : C = chn n b L' := by rw [HC.out, chI_in hbn]
        have htW := (ht.quiet (HC0.out.trans hq)).quiet (Ch.refl [] W').drew
        obtain ⟨A, B, hAB, hA, hkA, hkB⟩ := at_parts (chn_nodup ht.nd n b) (hCe ▸ he)
        have t1 : W'.cell? ⟨R, 1, none⟩ = some (.slice (some ⟨K, 0, none⟩) n n) := htW.c1
        have tH : W'.cell? ⟨K, b, none⟩ = some (H b) := (htW.head hbn).1
        have hrow := htW.rows b hbn
        have hl64 : (chn n b L').length ≤ 64 := by have := chn_len n b L'; have := ht.hl; have := ht.hr; omega
        rw [hAB] at hrow hl64
        obtain ⟨q, hqB⟩ : ∃ q, B.length = q := ⟨_, rfl⟩
        obtain ⟨m', hm'⟩ : ∃ m', m' = x + q := ⟨_, rfl⟩
        have hln : (A ++ e :: B).length = m' + 1 := by simp; omega
        obtain ⟨g, cap', hgv⟩ : ∃ g cap', H b = .slice (some ⟨g, 0, none⟩) (m' + 1) cap' := by
          rcases hrow.2 with ⟨_, h0⟩ | ⟨g, cap', cur, e1, _⟩
          · rw [hln] at h0; omega
          · exact ⟨g, cap', by rw [e1, hln]⟩
        have hob : (H b).ownBlock = some g := by rw [hgv]; rfl
        obtain ⟨hgS, gcs, gfr, hgb⟩ := row_blk hrow g hob
        replace hgb : W'.heap[g]? = some (.cells gcs 170 gfr) := hgb
        rw [hgv] at hrow tH
        have HDel := Lib.hid (delete_in hrow hA hqB hm' rfl (by omega))
        have HRow := Lib.hid hrow
        have HTW := Lib.hid htW
        have HOb := Lib.hid hob
        have HGv := Lib.hid hgv
        have HAB := Lib.hid hAB
        have HKAB := Lib.hid (show y ∉ ksE A ∧ y ∉ ksE B from by rw [hka]; exact ⟨hkA, hkB⟩)
        have Hka := Lib.hid hka
        have HHt := Lib.hid ht
        have ct := (boxed_ch qt hq (by simp)).cell
        have c3 := (boxed_ch q2 hq (by simp)).cell
        have HBt := Lib.hid (boxed_ch qt hq (by simp))
        have HBc := Lib.hid (boxed_ch qc hq (by simp))
        have HB2 := Lib.hid (boxed_ch q2 hq (by simp))
        have HGb := Lib.hid hgb
        have HKb := Lib.hid htW.headsBlk
        have hgb1 : w.heap.size ≠ g := ne_of_types hgb (boxed_ch qt hq (by simp)) (by decide)
        have hgb2 : X + 1 ≠ g := ne_of_types hgb (boxed_ch q2 hq (by simp)) (by decide)
        have hgb3 : w.heap.size + 1 ≠ g := ne_of_types hgb (boxed_ch qc hq (by simp)) (by decide)
        have hkb3 : w.heap.size + 1 ≠ K := by
          obtain ⟨_, kcs, kfr, hkb⟩ := htW.headsBlk
          replace hkb : W'.heap[K]? = some (.cells kcs 154 kfr) := hkb
          exact ne_of_types hkb (boxed_ch qc hq (by simp)) (by decide)
        have hkb1 : w.heap.size ≠ K := by
          obtain ⟨_, kcs, kfr, hkb⟩ := htW.headsBlk
          replace hkb : W'.heap[K]? = some (.cells kcs 154 kfr) := hkb
          exact ne_of_types hkb (boxed_ch qt hq (by simp)) (by decide)
        have HNe := Lib.hid (And.intro hgb1 (And.intro hgb2 (And.intro hgb3 (And.intro hkb3 hkb1))))
        have hb0 : (0 : Int) ≤ (b : Int) := by omega
        have hb1 : (b : Int) < (n : Int) := by omega
        have hwx : IntKind.i64.wrap ((x : Int) + 1) = (x : Int) + 1 := IntWalk.i64_in _ (by omega)
        have hwc : IntKind.i64.wrap ((c : Int) + 1) = (c : Int) + 1 := IntWalk.i64_in _ (by have := delsE_le zs L; have := HLen.out; have h2 := congrArg Prod.snd HS.out.d; simp only at h2; omega)
        have hyy : ((y : Int) == (y : Int)) = true := by simp
        clear hq hno hpre hx he hka hy hCe htW hrow hAB hA hkA hkB hl64 hqB hm' hln hgv hob hgb ht hgb1 hgb2 hgb3 hkb3 hkb1 q1 q2 q3 q4 qt qc hseq
        gi_wp2_with fail
        refine wpIn_region_roundL _ (by kernel_rfl) (by kernel_rfl) (fun ⟨_, _, h⟩ => h) rfl (by kernel_rfl) (fun w' => w'.cell? ⟨w.heap.size, 0, none⟩ = some (.pointer (some ⟨R, 0, none⟩)) ∧ w'.cell? ⟨R, 1, none⟩ = some (.slice (some ⟨K, 0, none⟩) n n) ∧ w'.cell? ⟨X + 1, 0, none⟩ = some (.int .i64 (b : Int)) ∧ w'.cell? ⟨K, b, none⟩ = some (.slice (some ⟨g, 0, none⟩) (m' + 1) cap')) ⟨ct, t1, c3, tH⟩ (fun hHeld => ?_)
        simp only [List.dropLast_cons_cons, List.dropLast_singleton, List.length_cons, List.length_nil]
        refine wpAnyH_take (i := 0) (oi := { dst := some 28, op := _, type := _, pos := _, after := _, guard := _ }) (v := ?v1_0) rfl (by kernel_rfl) (by kernel_rfl) (by kernel_rfl) (by intro _ _ _ h; first | exact h | exact nomatch h.1) (.inl ⟨by rfl, ?h1_0⟩) (by assumption) ?_
        case h1_0 => intro w hSw; obtain ⟨hs0, hs1, hs2, hs3⟩ := hSw; go_simp; (try with_reducible rfl)
        try simp only [Act.put, List.setIfInBounds_toArray, List.set_cons_zero, List.set_cons_succ]
        refine wpAnyH_take (i := 1) (oi := { dst := some 29, op := _, type := _, pos := _, after := _, guard := _ }) (v := ?v2_1) rfl (by kernel_rfl) (by kernel_rfl) (by kernel_rfl) (by intro _ _ _ h; first | exact h | exact nomatch h.1) (.inl ⟨by rfl, ?h2_1⟩) (by assumption) ?_
        case h2_1 => intro w hSw; obtain ⟨hs0, hs1, hs2, hs3⟩ := hSw; go_simp; (try with_reducible rfl)
        try simp only [Act.put, List.setIfInBounds_toArray, List.set_cons_zero, List.set_cons_succ]
        refine wpAnyH_take (i := 2) (oi := { dst := some 30, op := _, type := _, pos := _, after := _, guard := _ }) (v := ?v3_2) rfl (by kernel_rfl) (by kernel_rfl) (by kernel_rfl) (by intro _ _ _ h; first | exact h | exact nomatch h.1) (.inl ⟨by rfl, ?h3_2⟩) (by assumption) ?_
        case h3_2 => intro w hSw; obtain ⟨hs0, hs1, hs2, hs3⟩ := hSw; go_simp; (try with_reducible rfl)
        try simp only [Act.put, List.setIfInBounds_toArray, List.set_cons_zero, List.set_cons_succ]
        refine wpAnyH_take (i := 3) (oi := { dst := some 31, op := _, type := _, pos := _, after := _, guard := _ }) (v := ?v4_3) rfl (by kernel_rfl) (by kernel_rfl) (by kernel_rfl) (by intro _ _ _ h; first | exact h | exact nomatch h.1) (.inl ⟨by rfl, ?h4_3⟩) (by assumption) ?_
        case h4_3 => intro w hSw; obtain ⟨hs0, hs1, hs2, hs3⟩ := hSw; go_simp; (try with_reducible rfl)
        try simp only [Act.put, List.setIfInBounds_toArray, List.set_cons_zero, List.set_cons_succ]
        refine wpAnyH_take (i := 4) (oi := { dst := some 32, op := _, type := _, pos := _, after := _, guard := _ }) (v := ?v5_4) rfl (by kernel_rfl) (by kernel_rfl) (by kernel_rfl) (by intro _ _ _ h; first | exact h | exact nomatch h.1) (.inl ⟨by rfl, ?h5_4⟩) (by assumption) ?_
        case h5_4 => intro w hSw; obtain ⟨hs0, hs1, hs2, hs3⟩ := hSw; go_simp; (try with_reducible rfl)
        try simp only [Act.put, List.setIfInBounds_toArray, List.set_cons_zero, List.set_cons_succ]
        refine wpAnyH_take (i := 5) (oi := { dst := some 33, op := _, type := _, pos := _, after := _, guard := _ }) (v := ?v6_5) rfl (by kernel_rfl) (by kernel_rfl) (by kernel_rfl) (by intro _ _ _ h; first | exact h | exact nomatch h.1) (.inl ⟨by rfl, ?h6_5⟩) (by assumption) ?_
        case h6_5 => intro w hSw; obtain ⟨hs0, hs1, hs2, hs3⟩ := hSw; go_simp; (try with_reducible rfl)
        try simp only [Act.put, List.setIfInBounds_toArray, List.set_cons_zero, List.set_cons_succ]
        refine wpAnyH_take (i := 6) (oi := { dst := some 34, op := _, type := _, pos := _, after := _, guard := _ }) (v := ?v7_6) rfl (by kernel_rfl) (by kernel_rfl) (by kernel_rfl) (by intro _ _ _ h; first | exact h | exact nomatch h.1) (.inl ⟨by rfl, ?h7_6⟩) (by assumption) ?_
        case h7_6 => intro w hSw; obtain ⟨hs0, hs1, hs2, hs3⟩ := hSw; go_simp; (try with_reducible rfl)
        try simp only [Act.put, List.setIfInBounds_toArray, List.set_cons_zero, List.set_cons_succ]
        refine wpAnyH_take (i := 7) (oi := { dst := some 35, op := _, type := _, pos := _, after := _, guard := _ }) (v := ?v8_7) rfl (by kernel_rfl) (by kernel_rfl) (by kernel_rfl) (by intro _ _ _ h; first | exact h | exact nomatch h.1) (.inl ⟨by rfl, ?h8_7⟩) (by assumption) ?_
        case h8_7 => intro w hSw; obtain ⟨hs0, hs1, hs2, hs3⟩ := hSw; go_simp; (try with_reducible rfl)
        try simp only [Act.put, List.setIfInBounds_toArray, List.set_cons_zero, List.set_cons_succ]
        refine wpAnyH_take (i := 8) (oi := { dst := some 36, op := _, type := _, pos := _, after := _, guard := _ }) (v := ?v9_8) rfl (by kernel_rfl) (by kernel_rfl) (by kernel_rfl) (by intro _ _ _ h; first | exact h | exact nomatch h.1) (.inl ⟨by rfl, ?h9_8⟩) (by assumption) ?_
        case h9_8 => intro w hSw; obtain ⟨hs0, hs1, hs2, hs3⟩ := hSw; go_simp; (try with_reducible rfl)
        try simp only [Act.put, List.setIfInBounds_toArray, List.set_cons_zero, List.set_cons_succ]
        refine wpAnyH_take (i := 9) (oi := { dst := some 37, op := _, type := _, pos := _, after := _, guard := _ }) (v := ?v10_9) rfl (by kernel_rfl) (by kernel_rfl) (by kernel_rfl) (by intro _ _ _ h; first | exact h | exact nomatch h.1) (.inl ⟨by rfl, ?h10_9⟩) (by assumption) ?_
        case h10_9 => intro w hSw; obtain ⟨hs0, hs1, hs2, hs3⟩ := hSw; go_simp; (try with_reducible rfl)
        try simp only [Act.put, List.setIfInBounds_toArray, List.set_cons_zero, List.set_cons_succ]
        refine wpAnyH_take (i := 10) (oi := { dst := some 38, op := _, type := _, pos := _, after := _, guard := _ }) (v := ?v11_10) rfl (by kernel_rfl) (by kernel_rfl) (by kernel_rfl) (by intro _ _ _ h; first | exact h | exact nomatch h.1) (.inl ⟨by rfl, ?h11_10⟩) (by assumption) ?_
        case h11_10 => intro w hSw; obtain ⟨hs0, hs1, hs2, hs3⟩ := hSw; go_simp; (try with_reducible rfl)
        try simp only [Act.put, List.setIfInBounds_toArray, List.set_cons_zero, List.set_cons_succ]
        refine wpAnyH_take (i := 11) (oi := { dst := some 39, op := _, type := _, pos := _, after := _, guard := _ }) (v := ?v12_11) rfl (by kernel_rfl) (by kernel_rfl) (by kernel_rfl) (by intro _ _ _ h; first | exact h | exact nomatch h.1) (.inl ⟨by rfl, ?h12_11⟩) (by assumption) ?_
        case h12_11 => intro w hSw; obtain ⟨hs0, hs1, hs2, hs3⟩ := hSw; go_simp; (try with_reducible rfl)
        try simp only [Act.put, List.setIfInBounds_toArray, List.set_cons_zero, List.set_cons_succ]
        refine wpAnyH_take (i := 12) (oi := { dst := some 40, op := _, type := _, pos := _, after := _, guard := _ }) (v := ?v13_12) rfl (by kernel_rfl) (by kernel_rfl) (by kernel_rfl) (by intro _ _ _ h; first | exact h | exact nomatch h.1) (.inl ⟨by rfl, ?h13_12⟩) (by assumption) ?_
        case h13_12 => intro w hSw; obtain ⟨hs0, hs1, hs2, hs3⟩ := hSw; go_simp; (try with_reducible rfl)
        try simp only [Act.put, List.setIfInBounds_toArray, List.set_cons_zero, List.set_cons_succ]
        refine wpAnyH_take (i := 13) (oi := { dst := some 41, op := _, type := _, pos := _, after := _, guard := _ }) (v := ?v14_13) rfl (by kernel_rfl) (by kernel_rfl) (by kernel_rfl) (by intro _ _ _ h; first | exact h | exact nomatch h.1) (.inl ⟨by rfl, ?h14_13⟩) (by assumption) ?_
        case h14_13 => intro w hSw; obtain ⟨hs0, hs1, hs2, hs3⟩ := hSw; go_simp; (try with_reducible rfl)
        try simp only [Act.put, List.setIfInBounds_toArray, List.set_cons_zero, List.set_cons_succ]
        refine wpAnyH_take (i := 14) (oi := { dst := some 42, op := _, type := _, pos := _, after := _, guard := _ }) (v := ?v15_14) rfl (by kernel_rfl) (by kernel_rfl) (by kernel_rfl) (by intro _ _ _ h; first | exact h | exact nomatch h.1) (.inl ⟨by rfl, ?h15_14⟩) (by assumption) ?_
        case h15_14 => intro w hSw; obtain ⟨hs0, hs1, hs2, hs3⟩ := hSw; go_simp; (try with_reducible rfl)
        try simp only [Act.put, List.setIfInBounds_toArray, List.set_cons_zero, List.set_cons_succ]
        clear ct t1 c3 tH
        refine wpAnyH_ready (rs := [15]) (by kernel_rfl) (by simp) ?_
        refine AllReadyH.cons (o := { dst := some 43, op := _, type := _, pos := _, after := _, guard := _ }) rfl (fun K hK => ?_) AllReadyH.nil
        go_simp
        (with_reducible refine HDel.out.mono ?_); rintro r w5 ⟨rfl, hrow5, hg5⟩; have hg6 := hg5; rw [← HOb.out] at hg6; have hg7 : W'.grownBy w5 (some g) := ⟨hg5.os, hg5.tape, hg5.output, hg5.size, hg5.block⟩; obtain ⟨e1, e3, f3⟩ := HTW.out.still hbn hg6; rw [HGv.out] at e3; have HR5 := Lib.hid hrow5; have HG5 := Lib.hid hg7; have HG6 := Lib.hid hg6; have hk0 := hg7.block w.heap.size HBt.out.lt (fun e => HNe.out.1 (Option.some.inj e)); have hk2 := hg7.block (X + 1) HB2.out.lt (fun e => HNe.out.2.1 (Option.some.inj e)); have hk3 := hg7.block (w.heap.size + 1) HBc.out.lt (fun e => HNe.out.2.2.1 (Option.some.inj e)); have HBt5 := Lib.hid (hk0.trans HBt.out); have HBc5 := Lib.hid (hk3.trans HBc.out); have e0 := (show Boxed w5 w.heap.size _ _ from hk0.trans HBt.out).cell; have e2 := (show Boxed w5 (X + 1) _ _ from hk2.trans HB2.out).cell; clear hrow5 hg5 hg6 hg7 hk0 hk2 hk3
        refine hK.out _ _ ⟨e0, e1, e2, e3⟩ (fun hHeld => ?_)
        clear hK K
        try simp only [Act.put, List.setIfInBounds_toArray, List.set_cons_zero, List.set_cons_succ]
        clear e0 e1 e2
        refine wpAnyH_take (i := 16) (oi := { dst := some 44, op := _, type := _, pos := _, after := _, guard := _ }) (v := ?v16_16) rfl (by kernel_rfl) (by kernel_rfl) (by kernel_rfl) (by intro _ _ _ h; first | exact h | exact nomatch h.1) (.inl ⟨by rfl, ?h16_16⟩) (by assumption) ?_
        case h16_16 => intro w hSw; obtain ⟨hs0, hs1, hs2, hs3⟩ := hSw; go_simp; (try with_reducible rfl)
        try simp only [Act.put, List.setIfInBounds_toArray, List.set_cons_zero, List.set_cons_succ]
        refine wpAnyH_done (by kernel_rfl) ?_ _
        unfold lastPost
        simp only []
        go_simp
        clear hHeld e3 f3
        obtain ⟨w6, hw6⟩ : ∃ V, V = w5.setCell ⟨K, b, none⟩ (.slice (some ⟨g, 0, none⟩) m' cap') := ⟨_, rfl⟩
        have HW6 := Lib.hid hw6
        have hB6 : Boxed w6 (w.heap.size + 1) 3 (.int .i64 (c : Int)) := by rw [hw6]; exact (Below.heap_setCell _ _ _ _ HNe.out.2.2.2.1).trans HBc5.out
        have g0 := hB6.cell
        have g1 := hB6.frozen
        rw [← hw6]
        have HB6 := Lib.hid hB6
        clear hw6 hB6
        gi_wp2
        have hin : e ∈ L' ∧ bk n e.k = b := chn_mem.1 (by rw [HAB.out]; simp)
        have hcn : chn n b (delE L' y) = A ++ B := by
          rw [chn_del, HAB.out, Hka.out]
          rw [Hka.out] at HKAB
          exact del_at HKAB.out.1 HKAB.out.2
        obtain ⟨u1, u2⟩ := HTW.out.upd (w4 := w5) (v' := .slice (some ⟨g, 0, none⟩) m' cap') (L' := delE L' y) hbn (fun i hi => chn_del_other (by rw [HBk.out]; exact hi) L') (by rw [hcn]; exact HR5.out) HG6.out (.inl (by rw [HOb.out]; rfl)) (del_nodup HTW.out.nd y) (Nat.le_trans (del_len_le _ _) HTW.out.hl)
        have hch : Ch [g, K, w.heap.size + 1] W' ((w5.setCell ⟨K, b, none⟩ (.slice (some ⟨g, 0, none⟩) m' cap')).setCell ⟨w.heap.size + 1, 0, none⟩ (.int .i64 ((c : Int) + 1))) := by
          have h5 : Ch [g, K, w.heap.size + 1] W' w5 := ⟨HG5.out.os, HG5.out.tape, HG5.out.output, HG5.out.size, fun k hk hn => HG5.out.block k hk (fun e => hn (by cases e; simp))⟩
          exact (h5.setCell (p := ⟨K, b, none⟩) (by simp) _).setCell (p := ⟨w.heap.size + 1, 0, none⟩) (by simp) _
        have e6 := HW6.out
        rw [← e6] at u1 u2 hch
        have hk5 : KeepsOthers W' w5 := KeepsOthers.of_grownBy HG5.out (fun j o ej hj => by
          cases ej
          rw [HGb.out] at hj
          cases hj
          rfl)
        have hk6 : KeepsOthers W' w6 := by rw [e6]; exact hk5.trans (KeepsOthers.setCell _ _ _)
        refine ⟨(hk6.trans (KeepsOthers.setCell _ _ _)).from _, rfl, ksE_mem.2 ⟨e, hin.1, Hka.out.symm⟩, .inr ⟨R, K, _, rfl, u1.other HB6.out (by decide) (by decide) (by decide) 0 _⟩,
          ((HTn0.out.trans (Tn.of_ch HQ.out)).trans ((Tn.of_ch (Ch.refl [] W').drew).trans u2)).set (by omega) _, ?_, HB6.out.set _, (HM0.out.ch HQ.out (by simp)).ch hch ?_⟩
        · refine (Below.heap_setCell _ _ _ _ (show w.heap.size ≠ w.heap.size + 1 by omega)).trans ?_
          rw [e6]
          exact (Below.heap_setCell _ _ _ _ HNe.out.2.2.2.2).trans HBt5.out
        · intro k hk
          simp only [List.mem_cons, List.not_mem_nil, or_false] at hk
          rcases hk with rfl | rfl | rfl
          · exact ⟨_, HGb.out, rfl⟩
          · obtain ⟨_, kcs, kfr, hkb⟩ := HKb.out
            exact ⟨_, hkb, rfl⟩
          · exact ⟨_, HBc.out, rfl⟩
      · have hyk : ((y : Int) == (k : Int)) = false := by simp; omega
        have hno2 : ∀ j ∈ pre ++ [x], kA C j ≠ k := by
          intro j hj
          rcases List.mem_append.1 hj with hj | hj
          · exact hno j hj
          · obtain rfl : j = x := by simpa using hj
            rw [HY.out]; exact hk
        have HNo := Lib.hid hno2
        clear hq hno hno2 hpre hx he hka hy q1 q2 q3 q4 qt qc hseq
        gi_wp2
        exact ⟨(KeepsOthers.refl _).from _, KpT.ch (Ch.refl _ _), HQ.out, HNo.out⟩
    case done =>
      rintro D ys W' hD rfl ⟨hq, hno⟩ hKD
      have hDl := (Array.getElem?_eq_some_iff.1 hKD).1
      have HNo := Lib.hid (show k ∉ ksE L' from fun hm => by
        have h2 : k ∈ ksE C := by
          rcases HS.out.t with ⟨_, h0, hL0⟩ | ⟨R, K, H, rfl, ht⟩
          · rw [hL0] at hm; cases hm
          · have hbn : b < n := by
              rw [← HBk.out]
              exact bk_lt (by have := ht.hn; omega) _
            rw [HC.out, chI_in hbn, ← HBk.out]
            exact chn_key.2 hm
        obtain ⟨e, he, hek⟩ := ksE_mem.1 h2
        obtain ⟨j, hj, hje⟩ := List.mem_iff_getElem.1 he
        have h3 : C[j]? = some e := by rw [← hje]; exact List.getElem?_eq_getElem hj
        exact hno j (List.mem_range.2 hj) (by rw [kA_at h3, hek]))
      have HD2 := Lib.hid (show DR w S p n room L zs w.heap.size (i + 1) c L' ({ target := .collected D, args := #[] } :: ds) W' from by
        have hd := delsE_step HKi.out HS.out.d
        rw [if_neg HNo.out, del_not HNo.out, Nat.add_zero] at hd
        have hm := HM0.out.ch hq (by simp)
        refine ⟨(HS.out.t.quiet HC0.out).quiet hq, HTn0.out.trans (Tn.of_ch hq), boxed_ch qt hq (by simp), boxed_ch qc hq (by simp), ?_, hd⟩
        refine ⟨⟨D, rfl, by have := HSz.out; have := HXw.out; omega, hDl, hKD, fun d' hd' e => ?_⟩, hm.keep (by omega) (fun _ _ _ h => h)⟩
        obtain ⟨D', g1, g2⟩ := hm.lt d' hd'
        rw [g1] at e
        cases e
        omega)
      clear hno hq hKD q1 q2 q3 q4 qt qc hseq
      gi_wp2_with fail
      refine HK1.out _ _ ?_
      clear HK1
      gi_wp2_with fail
      refine HK2.out _ _ ?_
      refine ⟨m - 1, by omega, HJ.out _ _ _ ?_⟩
      refine ⟨_, _, _, _, _, _, _, _, _, _, _, _, _, _, _, _, _, _, _, _, _, _, _, _, _, _, _, _, _, _, _, _, _, _, _, _, _, _, i + 1, c, L', _, by omega, HD2.out, rfl⟩
    case stop =>
      rintro D co pre W' hD hpre ⟨rfl, g2, g3, g4, g5, g6, g7⟩ hKD
      have hDl := (Array.getElem?_eq_some_iff.1 hKD).1
      have HD2 := Lib.hid (show DR w S p n room L zs w.heap.size (i + 1) (c + 1) (delE L' k) ({ target := .collected D, args := #[] } :: ds) W' from by
        have hd := delsE_step HKi.out HS.out.d
        rw [if_pos g2] at hd
        refine ⟨g3, g4, g5, g6, ?_, hd⟩
        refine ⟨⟨D, rfl, by have := HSz.out; have := HXw.out; omega, hDl, hKD, fun d' hd' e => ?_⟩, g7.keep (by omega) (fun _ _ _ h => h)⟩
        obtain ⟨D', g1, g2⟩ := g7.lt d' hd'
        rw [g1] at e
        cases e
        omega)
      clear g2 g3 g4 g5 g6 g7 hKD q1 q2 q3 q4 qt qc hseq hpre
      gi_wp2_with fail
      refine HK1.out _ _ ?_
      clear HK1
      gi_wp2_with fail
      refine HK2.out _ _ ?_
      refine ⟨m - 1, by omega, HJ.out _ _ _ ?_⟩
      refine ⟨_, _, _, _, _, _, _, _, _, _, _, _, _, _, _, _, _, _, _, _, _, _, _, _, _, _, _, _, _, _, _, _, _, _, _, _, _, _, i + 1, c + 1, delE L' k, _, by omega, HD2.out, rfl⟩
  · have hil : i = zs.length := by have := HLen.out; omega
    have hd := HS.out.d
    rw [hil] at hd
    have HE := Lib.hid (delsE_end hd)
    clear hd
    obtain rfl : i = len := by omega
    gi_wp2
    try rw [Exit.noGoto_ret]
    exact leaves_marks_ck (v := .int .i64 (c : Int)) (w0 := W) (fun W => by simp [results, go_sem]) (fun W2 hW hk => ⟨by rw [HE.out], by rw [HE.out]; exact HS.out.t.ck hk, HS.out.tn.below hW⟩) ds W HS.out.m (Below.refl _ _) (CK.refl _)
end Go.Proofs.YtalhlopjaijhcaaGreat.bH
