/-
  A table of values of bool: Get, Put.
-/
import Derived.Test.YtaccfjlpojglpaaBBG
namespace Go.Proofs.Ytaccfjlpojglpaa.bB
open Go.RowKit Go.Shelf

attribute [local go_sem] Oper.semAt_some

theorem At.val {w : World} {S R K n room : Nat} {H : Nat → Value} {L : List E} {k j g cap : Nat} {x : E} (h : At w S R K n room H L k j x g cap) : valE L k = some x.v ∧ k ∈ ksE L ∧ w.cell? ⟨g, j * 2 + 1, none⟩ = some (vv x.v) ∧ w.frozen? ⟨g, j * 2 + 1, none⟩ = false := by
  have hx : x ∈ L := (chn_mem.1 (List.mem_of_getElem? h.pl)).1
  have hb : bk n k < n := bk_lt (by have := h.tb.hn; omega) k
  obtain ⟨a, cap', hf, _, _, _, hat⟩ := CR.form (h.tb.rows _ hb)
  obtain ⟨g', ha, _, c1, f1⟩ := hat j x h.pl
  rw [h.hd] at hf
  subst ha
  obtain rfl : g = g' := by simpa using (Value.slice.inj hf).1
  exact ⟨by rw [← h.key]; exact val_in h.tb.nd hx, by rw [← h.key]; exact ksE_mem.2 ⟨x, hx, rfl⟩, c1, f1⟩

theorem get_any {w : World} {S n : Nat} {p : Option Addr} {L : List E} (h : TG w S p n L) (k : Nat) :
    Calls Try.prog 32 #[.pointer p, .int .u64 (k : Int)] w fun e w' => e = .returned (.tuple #[vv ((valE L k).getD v0), .bool (valE L k).isSome]) ∧ Ch [] w w' := by
  have HF := Lib.hid (find_any k h)
  clear h
  go_enter Try.func32, Try.ntmps32
  go_wp2_with fail
  with_reducible refine HF.out.mono ?_
  rintro e w1 ⟨(⟨hno, rfl⟩ | ⟨R, K, room, H, j, x, g, cap, rfl, hat, rfl⟩), hc⟩
  · have HC := Lib.hid hc
    have HV := Lib.hid (val_not hno)
    clear hc hno HF
    go_wp2_with fail
    go_ret2
    rw [HV.out]
    exact ⟨rfl, HC.out⟩
  · have HC := Lib.hid hc
    obtain ⟨h1, -, h3, -⟩ := hat.val
    have HV := Lib.hid h1
    have c1 := (hc.cell (p := ⟨g, j * 2 + 1, none⟩) (cell_lt h3) (by simp)).trans h3
    obtain ⟨y, hy⟩ : ∃ y, y = x.v := ⟨_, rfl⟩
    rw [← hy] at HV c1
    clear hc hat h1 h3 HF hy
    go_wp2_with fail
    go_ret2
    rw [HV.out]
    exact ⟨rfl, HC.out⟩

theorem put_nil (k : Nat) (v : V) (w : World) : Calls Try.prog 28 #[.pointer none, .int .u64 (k : Int), vv v] w fun e w' => e = .returned (.tuple #[.bool false, .int .i64 6]) ∧ w' = w := by
  go_enter Try.func28, Try.ntmps28
  go_wp2
  go_ret2
  exact ⟨rfl, rfl⟩

set_option maxRecDepth 100000 in
set_option maxHeartbeats 4000000 in
theorem put_any {w : World} {S R K n room : Nat} {H : Nat → Value} {L : List E} (h : TB w S R K n room H L) (k : Nat) (v : V) :
    Calls Try.prog 28 #[.pointer (some ⟨R, 0, none⟩), .int .u64 (k : Int), vv v] w fun e w' =>
      e = .returned (.tuple #[.bool (putE room L k v).2.1, .int .i64 (((putE room L k v).2.2 : Nat) : Int)]) ∧ (∃ H', TB w' S R K n room H' (putE room L k v).1) ∧ Tn S w w' := by
  have hTG : TG w S (some ⟨R, 0, none⟩) n L := .inr ⟨R, K, room, H, rfl, h⟩
  have HF := Lib.hid (find_any k hTG)
  have HT := Lib.hid h
  have HG := Lib.hid hTG
  clear h hTG
  go_enter Try.func28, Try.ntmps28
  go_wp2_with fail
  with_reducible refine HF.out.mono ?_
  rintro e w1 ⟨(⟨hno, rfl⟩ | ⟨R', K', room', H', j, x, g, cap, hp, hat, rfl⟩), hc⟩
  · have HC := Lib.hid hc
    have HNo := Lib.hid hno
    have ht := HT.out.quiet hc
    have HT1 := Lib.hid ht
    have HL := Lib.hid (fun W (hW : Ch [] w1 W) => len_any (.inr ⟨R, K, room, H, rfl, ht.quiet hW⟩ : TG W S (some ⟨R, 0, none⟩) n L))
    have HB := Lib.hid (fun W (hW : Ch [] w1 W) => bucket_any (.inr ⟨R, K, room, H, rfl, ht.quiet hW⟩ : TG W S (some ⟨R, 0, none⟩) n L) k)
    have c0 := ht.c0
    obtain ⟨m, hm⟩ : ∃ m, m = L.length := ⟨_, rfl⟩
    rw [← hm] at HL
    by_cases hfull : room ≤ m
    · have HE := Lib.hid (show putE room L k v = (L, false, 3) by unfold putE; rw [if_neg hno, if_pos (by omega)])
      have hd : decide ((room : Int) ≤ (m : Int)) = true := decide_eq_true (by omega)
      clear hc hno ht HF hm
      go_wp2_with fail
      go_quiet ((go_at_call 33; exact Calls.quiet_of_same (HL.out _ ((Ch.refl [] w1).drewN _))))
      go_wp2
      go_ret2
      rw [HE.out]
      exact ⟨rfl, ⟨H, HT1.out.quiet ((Ch.refl [] w1).drewN _)⟩, Tn.of_ch (HC.out.drewN _)⟩
    · have HE := Lib.hid (show putE room L k v = (⟨k, v⟩ :: L, false, 0) by unfold putE; rw [if_neg hno, if_neg (by omega)])
      have hd : decide ((room : Int) ≤ (m : Int)) = false := decide_eq_false (by omega)
      have HM := Lib.hid (show L.length < room by omega)
      obtain ⟨b, hb⟩ : ∃ b, bk n k = b := ⟨_, rfl⟩
      rw [hb] at HB
      have hbn : b < n := by rw [← hb]; exact bk_lt (by have := ht.hn; omega) k
      have HBk := Lib.hid hb
      clear hc hno ht HF hm hb
      go_wp2_with fail
      go_quiet ((go_at_call 33; exact Calls.quiet_of_same (HL.out _ ((Ch.refl [] w1).drewN _))))
      obtain ⟨w2, hw2⟩ : ∃ W, W = w1.drewN nq := ⟨_, rfl⟩
      have hc2 : Ch [] w1 w2 := by rw [hw2]; exact (Ch.refl [] w1).drewN nq
      have HB2 := Lib.hid (HB.out w2 hc2)
      have HC2 := Lib.hid (HC.out.trans hc2)
      have ht2 := HT1.out.quiet hc2
      have HT2 := Lib.hid ht2
      have t1 := ht2.c1
      obtain ⟨tH, fH⟩ := ht2.head hbn
      obtain ⟨hv, hhv⟩ : ∃ x, x = H b := ⟨_, rfl⟩
      rw [← hhv] at tH
      have HHv := Lib.hid hhv
      rw [← hw2]
      clear hw2 hc2 ht2 c0 hd HL HB HT1 HC hhv
      go_wp2_with fail
      with_reducible refine HB2.out.mono ?_
      rintro e w3 ⟨rfl, hw3⟩
      subst w3
      obtain ⟨X, hX⟩ : ∃ X, X = w2.heap.size := ⟨_, rfl⟩
      have HX := Lib.hid hX
      obtain ⟨w5, hw5⟩ : ∃ W, W = (w2.alloc (.cells #[.int .u64 (k : Int), vv v] 102)).drew := ⟨_, rfl⟩
      have hc5 : Ch [] w2 w5 := by rw [hw5]; exact ((Ch.refl [] w2).alloc _).drew
      have hX5 : w5.heap[X]? = some (.cells #[.int .u64 (k : Int), vv v] 102 (0, 0)) := by rw [hw5, hX]; exact World.alloc_heap_new w2 _
      have hrow := HT2.out.rows b hbn
      have hne : hv.ownBlock ≠ some X := by
        rw [HHv.out]
        intro e
        have := (hrow.lt X e).2
        omega
      rw [← HHv.out] at hrow
      have hl64 : (chn n b L).length ≤ 64 := by have := chn_len n b L; have := HT2.out.hl; have := HT2.out.hr; omega
      have HIns := Lib.hid (insert_any (own_ch hrow hc5 (by simp)) (by have := HT2.out.lt; have := hc5.size; omega) hl64 ⟨k, v⟩ X hX5 hne)
      have HC5 := Lib.hid hc5
      have a1 := (hc5.cell (p := ⟨R, 1, none⟩) (cell_lt t1) (by simp)).trans t1
      have aH := (hc5.cell (p := ⟨K, b, none⟩) (cell_lt tH) (by simp)).trans tH
      have HW5 := Lib.hid hw5
      have hb0 : (0 : Int) ≤ (b : Int) := by omega
      have hb1 : (b : Int) < (n : Int) := by omega
      rw [hw5] at a1 aH
      have HT5 := Lib.hid (HT2.out.quiet hc5)
      clear hw5 hc5 hX5 hrow hne hl64 hX
      go_wp2_with fail
      refine wp_region_noPanic ?_
      refine wp_region_lastL _ (by kernel_rfl) rfl (by kernel_rfl) (fun w' => w'.cell? ⟨R, 1, none⟩ = some (.slice (some ⟨K, 0, none⟩) n n) ∧ w'.cell? ⟨K, b, none⟩ = some hv) ⟨t1, tH⟩ (fun hHeld => ?_)
      simp only [List.dropLast_cons_cons, List.dropLast_singleton, List.length_cons, List.length_nil]
      refine wpAnyH_take (i := 0) (oi := { dst := some 31, op := _, type := _, pos := _, after := _, guard := _ }) (v := ?v1_0) rfl (by kernel_rfl) (by kernel_rfl) (by kernel_rfl) (fun _ _ _ h => h) (.inl ⟨by rfl, ?h1_0⟩) (by assumption) ?_
      case h1_0 => intro w hSw; obtain ⟨hs0, hs1⟩ := hSw; go_simp; (try with_reducible rfl)
      try simp only [Act.put, List.setIfInBounds_toArray, List.set_cons_zero, List.set_cons_succ]
      refine wpAnyH_take (i := 1) (oi := { dst := some 32, op := _, type := _, pos := _, after := _, guard := _ }) (v := ?v2_1) rfl (by kernel_rfl) (by kernel_rfl) (by kernel_rfl) (fun _ _ _ h => h) (.inl ⟨by rfl, ?h2_1⟩) (by assumption) ?_
      case h2_1 => intro w hSw; obtain ⟨hs0, hs1⟩ := hSw; go_simp; (try with_reducible rfl)
      try simp only [Act.put, List.setIfInBounds_toArray, List.set_cons_zero, List.set_cons_succ]
      refine wpAnyH_take (i := 2) (oi := { dst := some 33, op := _, type := _, pos := _, after := _, guard := _ }) (v := ?v3_2) rfl (by kernel_rfl) (by kernel_rfl) (by kernel_rfl) (fun _ _ _ h => h) (.inl ⟨by rfl, ?h3_2⟩) (by assumption) ?_
      case h3_2 => intro w hSw; obtain ⟨hs0, hs1⟩ := hSw; go_simp; (try with_reducible rfl)
      try simp only [Act.put, List.setIfInBounds_toArray, List.set_cons_zero, List.set_cons_succ]
      refine wpAnyH_take (i := 3) (oi := { dst := some 34, op := _, type := _, pos := _, after := _, guard := _ }) (v := ?v4_3) rfl (by kernel_rfl) (by kernel_rfl) (by kernel_rfl) (fun _ _ _ h => h) (.inl ⟨by rfl, ?h4_3⟩) (by assumption) ?_
      case h4_3 => intro w hSw; obtain ⟨hs0, hs1⟩ := hSw; go_simp; (try with_reducible rfl)
      try simp only [Act.put, List.setIfInBounds_toArray, List.set_cons_zero, List.set_cons_succ]
      refine wpAnyH_take (i := 4) (oi := { dst := some 35, op := _, type := _, pos := _, after := _, guard := _ }) (v := ?v5_4) rfl (by kernel_rfl) (by kernel_rfl) (by kernel_rfl) (fun _ _ _ h => h) (.inl ⟨by rfl, ?h5_4⟩) (by assumption) ?_
      case h5_4 => intro w hSw; obtain ⟨hs0, hs1⟩ := hSw; go_simp; (try with_reducible rfl)
      try simp only [Act.put, List.setIfInBounds_toArray, List.set_cons_zero, List.set_cons_succ]
      refine wpAnyH_take (i := 5) (oi := { dst := some 36, op := _, type := _, pos := _, after := _, guard := _ }) (v := ?v6_5) rfl (by kernel_rfl) (by kernel_rfl) (by kernel_rfl) (fun _ _ _ h => h) (.inl ⟨by rfl, ?h6_5⟩) (by assumption) ?_
      case h6_5 => intro w hSw; obtain ⟨hs0, hs1⟩ := hSw; go_simp; (try with_reducible rfl)
      try simp only [Act.put, List.setIfInBounds_toArray, List.set_cons_zero, List.set_cons_succ]
      refine wpAnyH_take (i := 6) (oi := { dst := some 37, op := _, type := _, pos := _, after := _, guard := _ }) (v := ?v7_6) rfl (by kernel_rfl) (by kernel_rfl) (by kernel_rfl) (fun _ _ _ h => h) (.inl ⟨by rfl, ?h7_6⟩) (by assumption) ?_
      case h7_6 => intro w hSw; obtain ⟨hs0, hs1⟩ := hSw; go_simp; (try with_reducible rfl)
      try simp only [Act.put, List.setIfInBounds_toArray, List.set_cons_zero, List.set_cons_succ]
      refine wpAnyH_take (i := 7) (oi := { dst := some 38, op := _, type := _, pos := _, after := _, guard := _ }) (v := ?v8_7) rfl (by kernel_rfl) (by kernel_rfl) (by kernel_rfl) (fun _ _ _ h => h) (.inl ⟨by rfl, ?h8_7⟩) (by assumption) ?_
      case h8_7 => intro w hSw; obtain ⟨hs0, hs1⟩ := hSw; go_simp; (try with_reducible rfl)
      try simp only [Act.put, List.setIfInBounds_toArray, List.set_cons_zero, List.set_cons_succ]
      refine wpAnyH_take (i := 8) (oi := { dst := some 39, op := _, type := _, pos := _, after := _, guard := _ }) (v := ?v9_8) rfl (by kernel_rfl) (by kernel_rfl) (by kernel_rfl) (fun _ _ _ h => h) (.inl ⟨by rfl, ?h9_8⟩) (by assumption) ?_
      case h9_8 => intro w hSw; obtain ⟨hs0, hs1⟩ := hSw; go_simp; (try with_reducible rfl)
      try simp only [Act.put, List.setIfInBounds_toArray, List.set_cons_zero, List.set_cons_succ]
      refine wpAnyH_take (i := 9) (oi := { dst := some 40, op := _, type := _, pos := _, after := _, guard := _ }) (v := ?v10_9) rfl (by kernel_rfl) (by kernel_rfl) (by kernel_rfl) (fun _ _ _ h => h) (.inl ⟨by rfl, ?h10_9⟩) (by assumption) ?_
      case h10_9 => intro w hSw; obtain ⟨hs0, hs1⟩ := hSw; go_simp; (try with_reducible rfl)
      try simp only [Act.put, List.setIfInBounds_toArray, List.set_cons_zero, List.set_cons_succ]
      refine wpAnyH_take (i := 10) (oi := { dst := some 41, op := _, type := _, pos := _, after := _, guard := _ }) (v := ?v11_10) rfl (by kernel_rfl) (by kernel_rfl) (by kernel_rfl) (fun _ _ _ h => h) (.inl ⟨by rfl, ?h11_10⟩) (by assumption) ?_
      case h11_10 => intro w hSw; obtain ⟨hs0, hs1⟩ := hSw; go_simp; (try with_reducible rfl)
      try simp only [Act.put, List.setIfInBounds_toArray, List.set_cons_zero, List.set_cons_succ]
      refine wpAnyH_take (i := 11) (oi := { dst := some 42, op := _, type := _, pos := _, after := _, guard := _ }) (v := ?v12_11) rfl (by kernel_rfl) (by kernel_rfl) (by kernel_rfl) (fun _ _ _ h => h) (.inl ⟨by rfl, ?h12_11⟩) (by assumption) ?_
      case h12_11 => intro w hSw; obtain ⟨hs0, hs1⟩ := hSw; go_simp; (try with_reducible rfl)
      try simp only [Act.put, List.setIfInBounds_toArray, List.set_cons_zero, List.set_cons_succ]
      refine wpAnyH_take (i := 12) (oi := { dst := some 43, op := _, type := _, pos := _, after := _, guard := _ }) (v := ?v13_12) rfl (by kernel_rfl) (by kernel_rfl) (by kernel_rfl) (fun _ _ _ h => h) (.inl ⟨by rfl, ?h13_12⟩) (by assumption) ?_
      case h13_12 => intro w hSw; obtain ⟨hs0, hs1⟩ := hSw; go_simp; (try with_reducible rfl)
      try simp only [Act.put, List.setIfInBounds_toArray, List.set_cons_zero, List.set_cons_succ]
      refine wpAnyH_take (i := 13) (oi := { dst := some 44, op := _, type := _, pos := _, after := _, guard := _ }) (v := ?v14_13) rfl (by kernel_rfl) (by kernel_rfl) (by kernel_rfl) (fun _ _ _ h => h) (.inl ⟨by rfl, ?h14_13⟩) (by assumption) ?_
      case h14_13 => intro w hSw; obtain ⟨hs0, hs1⟩ := hSw; go_simp; (try with_reducible rfl)
      try simp only [Act.put, List.setIfInBounds_toArray, List.set_cons_zero, List.set_cons_succ]
      refine wpAnyH_take (i := 14) (oi := { dst := some 45, op := _, type := _, pos := _, after := _, guard := _ }) (v := ?v15_14) rfl (by kernel_rfl) (by kernel_rfl) (by kernel_rfl) (fun _ _ _ h => h) (.inl ⟨by rfl, ?h15_14⟩) (by assumption) ?_
      case h15_14 => intro w hSw; obtain ⟨hs0, hs1⟩ := hSw; go_simp; (try with_reducible rfl)
      try simp only [Act.put, List.setIfInBounds_toArray, List.set_cons_zero, List.set_cons_succ]
      refine wpAnyH_ready (rs := [15]) (by kernel_rfl) (by simp) ?_
      refine AllReadyH.cons (o := { dst := some 46, op := _, type := _, pos := _, after := _, guard := _ }) rfl (fun K hK => ?_) AllReadyH.nil
      go_simp
      refine hK.out _ _ ⟨a1, aH⟩ (fun hHeld => ?_)
      clear hK K
      try simp only [Act.put, List.setIfInBounds_toArray, List.set_cons_zero, List.set_cons_succ]
      clear a1 aH t1 tH fH
      refine wpAnyH_ready (rs := [16]) (by kernel_rfl) (by simp) ?_
      refine AllReadyH.cons (o := { dst := some 47, op := _, type := _, pos := _, after := _, guard := _ }) rfl (fun K hK => ?_) AllReadyH.nil
      go_simp
      rw [← HX.out, ← HW5.out]; with_reducible refine HIns.out.mono ?_; rintro e w6 ⟨v', rfl, hrow6, hg6, hat6⟩; have hg7 := hg6; rw [HHv.out] at hg7; obtain ⟨e1, e2, f2⟩ := HT5.out.still hbn hg7; rw [← HHv.out] at e2; have HR6 := Lib.hid hrow6; have HG6 := Lib.hid hg7; have HA6 := Lib.hid hat6; obtain ⟨a6, c6, rfl⟩ := own_form hrow6; clear hrow6 hg6 hat6 hg7
      refine hK.out _ _ ⟨e1, e2⟩ (fun hHeld => ?_)
      clear hK K
      try simp only [Act.put, List.setIfInBounds_toArray, List.set_cons_zero, List.set_cons_succ]
      refine wpAnyH_take (i := 17) (oi := { dst := some 48, op := _, type := _, pos := _, after := _, guard := _ }) (v := ?v16_17) rfl (by kernel_rfl) (by kernel_rfl) (by kernel_rfl) (fun _ _ _ h => h) (.inl ⟨by rfl, ?h16_17⟩) (by assumption) ?_
      case h16_17 => intro w hSw; obtain ⟨hs0, hs1⟩ := hSw; go_simp; (try with_reducible rfl)
      try simp only [Act.put, List.setIfInBounds_toArray, List.set_cons_zero, List.set_cons_succ]
      refine wpAnyH_done (by kernel_rfl) ?_ _
      unfold lastPost
      simp only []
      go_simp
      refine NoPanic.normal ?_
      go_wp2
      go_ret2
      have hcn : chn n b (⟨k, v⟩ :: L) = ⟨k, v⟩ :: chn n b L := by rw [← HBk.out]; exact chn_cons (n := n) (⟨k, v⟩ : E) L
      obtain ⟨h1, h2⟩ := HT5.out.upd (L' := ⟨k, v⟩ :: L) hbn (fun i hi => chn_cons_other (by rw [HBk.out]; exact hi) L) (by rw [hcn]; exact HR6.out) HG6.out (by
        rcases HA6.out with h | h
        · exact .inl (by rw [← HHv.out]; exact h)
        · exact .inr ⟨_, h, Nat.le_refl _⟩) (List.nodup_cons.2 ⟨HNo.out, HT5.out.nd⟩) (by have := HM.out; simp; omega)
      rw [HE.out]
      exact ⟨rfl, ⟨_, h1⟩, (Tn.of_ch (HC2.out.trans HC5.out)).trans h2⟩
  · obtain rfl : R = R' := by simpa using hp
    obtain ⟨rfl, rfl⟩ : room = room' ∧ K = K' := by
      have e1 := HT.out.blk
      rw [hat.tb.blk] at e1
      simp at e1
      exact ⟨by omega, e1.2.symm⟩
    obtain ⟨-, hk, -, -⟩ := hat.val
    have HE := Lib.hid (show putE room L k v = (setE L k v, true, 0) by unfold putE; rw [if_pos hk])
    have hat1 : At w1 S R K n room H' L k j x g cap := ⟨hat.tb.quiet hc, hat.key, hat.pl, hat.hd⟩
    obtain ⟨-, -, c1, f1⟩ := hat1.val
    have HV := Lib.hid (hat1.tb.val hat1 v)
    have HC := Lib.hid hc
    clear hat hat1 hc hk hp HF HT HG
    go_wp2_with fail
    go_ret2
    rw [HE.out]
    exact ⟨rfl, ⟨_, HV.out.1⟩, (Tn.of_ch HC.out).trans HV.out.2⟩
end Go.Proofs.Ytaccfjlpojglpaa.bB
