/-
  The law CallsFull, walked.
-/
import Derived.Test.YtnnliimjemmekaaCaK
namespace Go.Proofs.Ytnnliimjemmekaa
open Go.RowKit
open rC (Th)

theorem cat_ge (f : Nat → List Th) {c : Nat} : ∀ {n : Nat}, c < n → (f c).length ≤ (catL f n).length
  | 0, h => by omega
  | n + 1, h => by
    rw [catL_succ, List.length_append]
    by_cases e : c = n
    · subst e; omega
    · have := cat_ge f (show c < n by omega); omega
theorem zc_all {xs : List Th} (h : ∀ x ∈ xs, x.2 = 0) : zc xs = xs.length := by
  unfold zc
  rw [List.countP_eq_length]
  exact fun x hx => decide_eq_true (h x hx)
theorem sum_all {f : Nat → List Th} (h : ∀ i, ∀ x ∈ f i, x.2 = 0) (g : Th → Th) : ∀ n, sumN (fun i => zc (f i)) n = (catL (fun i => (f i).map g) n).length
  | 0 => rfl
  | n + 1 => by
    rw [catL_succ, List.length_append, List.length_map, ← sum_all h g n]
    show _ + zc (f n) = _
    rw [zc_all (h n)]

/-- What the lists hold that a law fills: on the one CPU alone. -/
def onF (c : Nat) (ys : List Th) : Nat → List Th := updF (fun _ => []) c ys
theorem onF_at (c : Nat) (ys : List Th) : onF c ys c = ys := updF_same _ _ _
theorem onF_step (c : Nat) (ys zs : List Th) : updF (onF c ys) c zs = onF c zs := updF_twice _ _ _ _

set_option maxRecDepth 100000 in
set_option maxHeartbeats 4000000 in
theorem full_bad {cpus : Int} (h : cpus < 1 ∨ 64 < cpus) (cpu more : Int) (w : World) :
    Calls Try.prog 5 #[.int .i64 cpus, .int .i64 cpu, .int .i64 more] w fun e w' => e = .returned (.bool true) ∧ Below w.heap.size w w' := by
  have HN := Lib.hid (new_bad h w)
  have HK := Lib.hid (known_any w)
  rcases Int.lt_or_le cpus 1 with h0 | h0
  · have hd : decide (cpus < 1) = true := decide_eq_true h0
    clear h h0
    go_enter Try.func5, Try.ntmps5
    go_wp2_with fail
    with_reducible refine HN.out.mono ?_
    rintro e w1 ⟨rfl, rfl⟩
    go_frame
    go_wp2_with fail
    with_reducible refine HK.out.mono ?_
    rintro e w2 ⟨rfl, hb⟩
    have HB := Lib.hid hb
    clear hb
    go_frame
    go_wp2
    go_ret
    exact ⟨rfl, HB.out⟩
  · have hd : decide (cpus < 1) = false := decide_eq_false (by omega)
    have hd2 : decide (cpus > 64) = true := decide_eq_true (by omega)
    clear h h0
    go_enter Try.func5, Try.ntmps5
    go_wp2_with fail
    with_reducible refine HN.out.mono ?_
    rintro e w1 ⟨rfl, rfl⟩
    go_frame
    go_wp2_with fail
    with_reducible refine HK.out.mono ?_
    rintro e w2 ⟨rfl, hb⟩
    have HB := Lib.hid hb
    clear hb
    go_frame
    go_wp2
    go_ret
    exact ⟨rfl, HB.out⟩

set_option maxRecDepth 100000 in
set_option maxHeartbeats 8000000 in
theorem full_ok {n : Nat} (h1 : 1 ≤ n) (h64 : n ≤ 64) (cpu more : Int) (w : World) :
    Calls Try.prog 5 #[.int .i64 (n : Int), .int .i64 cpu, .int .i64 more] w fun e w' => e = .returned (.bool true) ∧ Below w.heap.size w w' := by
  have u1 : 0 ≤ IntKind.u64.wrap cpu ∧ IntKind.u64.wrap cpu < 18446744073709551616 := by rw [IntKind.wrap_u64]; omega
  have u2 : 0 ≤ IntKind.u64.wrap more ∧ IntKind.u64.wrap more < 18446744073709551616 := by rw [IntKind.wrap_u64]; omega
  generalize hg1 : IntKind.u64.wrap cpu = U1 at u1
  generalize hg2 : IntKind.u64.wrap more = U2 at u2
  obtain ⟨u10, u11⟩ := u1
  obtain ⟨u20, u21⟩ := u2
  have hnw : IntKind.u64.wrap (n : Int) = (n : Int) := by rw [IntKind.wrap_u64]; omega
  obtain ⟨c, hc1, hcn⟩ : ∃ c : Nat, U1 % (n : Int) = (c : Int) ∧ c < n := ⟨(U1 % (n : Int)).toNat, by have := Int.emod_nonneg U1 (show (n : Int) ≠ 0 by omega); omega, by have := Int.emod_lt_of_pos U1 (show (0 : Int) < (n : Int) by omega); have := Int.emod_nonneg U1 (show (n : Int) ≠ 0 by omega); omega⟩
  have hc2 : U1.tmod (n : Int) = (c : Int) := by rw [Int.tmod_eq_emod_of_nonneg u10]; exact hc1
  obtain ⟨m, hm1, hm80⟩ : ∃ m : Nat, U2 % 80 = (m : Int) ∧ m < 80 := ⟨(U2 % 80).toNat, by omega, by omega⟩
  have hm2 : U2.tmod 80 = (m : Int) := by rw [Int.tmod_eq_emod_of_nonneg u20]; exact hm1
  have HN := Lib.hid (lc_new h1 h64 w)
  have hd : decide ((n : Int) < 1) = false := decide_eq_false (by omega)
  have hd2 : decide ((n : Int) > 64) = false := decide_eq_false (by omega)
  have hn0 : ¬ (n : Int) = 0 := by omega
  have hn1 : ¬ n = 0 := by omega
  have hc64 : c < 64 := by omega
  have HCn := Lib.hid hcn
  clear hcn
  go_enter Try.func5, Try.ntmps5
  go_wp2_with fail
  with_reducible refine HN.out.mono ?_
  rintro e w1 ⟨A, rfl, hl, hb⟩
  have HL1 := Lib.hid hl
  have HB1 := Lib.hid hb
  clear hl hb
  go_frame
  go_wp2_with fail
  go_loopw [9] (fun r wr => ∃ (k : Nat) (ys : List Th), k ≤ m ∧ r = .int .i64 (k : Int) ∧ ys.length = min k 64 ∧ (∀ x ∈ ys, x.2 = 0) ∧ LC wr w.heap.size w1.heap.size A n 0 (onF c ys) ∧ Below w.heap.size w wr) (fun r _ => m - (intOf r).toNat)
  case atStart => exact ⟨0, [], Nat.zero_le _, rfl, rfl, by simp, HL1.out.congr (fun i _ => by unfold onF updF; split <;> rfl), HB1.out⟩
  case round =>
    obtain ⟨k, ys, hk, rfl, hyl, hyz, hl, hb⟩ := hrel
    have HL := Lib.hid hl
    have HB := Lib.hid hb
    have HYz := Lib.hid hyz
    have HYl := Lib.hid hyl
    by_cases hkm : k < m
    · have HA := Lib.hid (hl.add1 HCn.out (k : Int))
      rw [onF_at, onF_step] at HA
      have hlt : (k : Int) < (m : Int) := by omega
      obtain ⟨E, hE⟩ : ∃ E : Int, E = if 64 < ys.length + 1 then 3 else 0 := ⟨_, rfl⟩
      rw [← hE] at HA
      have HYs := Lib.hid (show ((ys ++ [fresh (k : Int)]).take 64).length = min (k + 1) 64 ∧ ∀ x ∈ (ys ++ [fresh (k : Int)]).take 64, x.2 = 0 from by
        refine ⟨by simp; omega, fun x hx => ?_⟩
        have h2 := List.mem_of_mem_take hx
        rcases List.mem_append.1 h2 with h3 | h3
        · exact hyz x h3
        · simp at h3; rw [h3]; rfl)
      clear hl hb hyz
      by_cases h64k : 64 ≤ k
      · have hge : decide ((k : Int) ≥ 64) = true := decide_eq_true (by omega)
        have hE3 : E = 3 := by rw [hE, if_pos (by omega)]
        rw [hE3] at HA
        clear hE hE3 hyl
        go_wp2_with fail
        with_reducible refine HA.out.mono ?_
        rintro e w3 ⟨rfl, hl3, hc3⟩
        have HL3 := Lib.hid hl3
        have HB3 := Lib.hid (chP_bel hc3 HB.out (Nat.le_refl _))
        clear hl3 hc3
        go_frame
        go_wp2
        go_roundw
        case rel => exact ⟨k + 1, _, by omega, by go_num, HYs.out.1, HYs.out.2, HL3.out, HB3.out⟩
        case measure => simp [intOf]; omega
      · have hge : decide ((k : Int) ≥ 64) = false := decide_eq_false (by omega)
        have hE3 : E = 0 := by rw [hE, if_neg (by omega)]
        rw [hE3] at HA
        clear hE hE3 hyl
        go_wp2_with fail
        with_reducible refine HA.out.mono ?_
        rintro e w3 ⟨rfl, hl3, hc3⟩
        have HL3 := Lib.hid hl3
        have HB3 := Lib.hid (chP_bel hc3 HB.out (Nat.le_refl _))
        clear hl3 hc3
        go_frame
        go_wp2
        go_roundw
        case rel => exact ⟨k + 1, _, by omega, by go_num, HYs.out.1, HYs.out.2, HL3.out, HB3.out⟩
        case measure => simp [intOf]; omega
    · have hkm' : ¬ (k : Int) < (m : Int) := by omega
      obtain rfl : k = m := by omega
      clear hl hb hyz
      obtain ⟨o, ho⟩ : ∃ o, o = (c + 1) % n := ⟨_, rfl⟩
      have hmod : ((c : Int) + 1).tmod (n : Int) = (o : Int) := by rw [Int.tmod_eq_emod_of_nonneg (by omega), ho, Int.natCast_emod]; rfl
      have hon : o < n := by rw [ho]; exact Nat.mod_lt _ (by omega)
      have hwr : IntKind.i64.wrap ((c : Int) + 1) = (c : Int) + 1 := IntWalk.i64_in _ (by omega)
      have hwo : IntKind.i64.wrap (o : Int) = (o : Int) := IntWalk.i64_in _ (by omega)
      have HA := Lib.hid (HL.out.add1 hon 5)
      obtain ⟨F2, hF2⟩ : ∃ F2, F2 = updF (onF c ys) o ((onF c ys o ++ [fresh 5]).take 64) := ⟨_, rfl⟩
      obtain ⟨E, hE⟩ : ∃ E : Int, E = if 64 < (onF c ys o).length + 1 then 3 else 0 := ⟨_, rfl⟩
      rw [← hF2, ← hE] at HA
      have HZ := Lib.hid (show ∀ i, ∀ x ∈ F2 i, x.2 = 0 from fun i x hx => by
        have hall : ∀ i, ∀ x ∈ onF c ys i, x.2 = 0 := fun i x hx => by
          unfold onF updF at hx
          split at hx
          · exact HYz.out x hx
          · simp at hx
        rw [hF2] at hx
        unfold updF at hx
        split at hx
        · rcases List.mem_append.1 (List.mem_of_mem_take hx) with h3 | h3
          · exact hall o x h3
          · simp at h3; rw [h3]; rfl
        · exact hall i x hx)
      have HG := Lib.hid (show min k 64 ≤ (F2 c).length from by
        rw [hF2]
        by_cases e : c = o
        · subst e; rw [updF_same, onF_at]; simp; omega
        · rw [updF_other _ e, onF_at]; omega)
      have hcase : (E = 0 ∧ o ≠ c) ∨ (E = 0 ∧ c = o ∧ k < 64) ∨ (E = 3 ∧ c = o ∧ 64 ≤ k) := by
        by_cases e : o = c
        · rw [e, onF_at, HYl.out] at hE
          by_cases h : 64 ≤ k
          · exact .inr (.inr ⟨by rw [hE, if_pos (by omega)], e.symm, h⟩)
          · exact .inr (.inl ⟨by rw [hE, if_neg (by omega)], e.symm, by omega⟩)
        · have : onF c ys o = [] := updF_other _ e _
          rw [this] at hE
          exact .inl ⟨by rw [hE]; rfl, e⟩
      clear hE hF2 hyl ho
      go_wp2_with fail
      with_reducible refine HA.out.mono ?_
      rintro e w3 ⟨rfl, hl3, hc3⟩
      have HL3 := Lib.hid hl3
      have HB3 := Lib.hid (chP_bel hc3 HB.out (Nat.le_refl _))
      have HK := Lib.hid (known_any w3)
      clear hl3 hc3 hmod hwr hwo
      rcases hcase with ⟨rfl, hoc⟩ | ⟨rfl, rfl, hk64⟩ | ⟨rfl, rfl, hk64⟩
      · have h1c : ((o : Int) != (c : Int)) = true := by simp; omega
        have h2c : ¬ (o : Int) = (c : Int) := by omega
        clear hoc
        go_frame
        go_wp2_with fail
        with_reducible refine HK.out.mono ?_
        rintro e w4 ⟨rfl, hb4⟩
        have HL4 := Lib.hid (HL3.out.below hb4)
        have HB4 := Lib.hid (bel_bel HB3.out hb4)
        clear hb4
        go_frame
        go_wp2_with fail
        with_reducible refine (HL4.out.quiet ((Ch.refl [] w4).alloc (.cells #[.int .i64 1] 3))).add_out (.inr (Int.le_refl _)) _ |>.mono ?_
        rintro e w5 ⟨rfl, rfl⟩
        have HL5 := Lib.hid (HL4.out.quiet ((Ch.refl [] w4).alloc (.cells #[.int .i64 1] 3)))
        have HB5 := Lib.hid (HB4.out.alloc HB4.out.size (.cells #[.int .i64 1] 3))
        generalize w4.alloc (.cells #[.int .i64 1] 3) = w5 at *
        go_frame
        go_wp2_with fail
        with_reducible refine (HL5.out.quiet ((Ch.refl [] w5).alloc (.cells #[.int .i64 1] 3))).add_out (.inl (by decide)) _ |>.mono ?_
        rintro e w6 ⟨rfl, rfl⟩
        have HL6 := Lib.hid (HL5.out.quiet ((Ch.refl [] w5).alloc (.cells #[.int .i64 1] 3)))
        have HB6 := Lib.hid (HB5.out.alloc HB5.out.size (.cells #[.int .i64 1] 3))
        generalize w5.alloc (.cells #[.int .i64 1] 3) = w6 at *
        have HCl := Lib.hid (HL6.out.close (gen := 1) (by decide) (by decide))
        rw [sum_all HZ.out (giveT 1)] at HCl
        go_frame
        go_wp2_with fail
        with_reducible refine HCl.out.mono ?_
        rintro e w7 ⟨rfl, hl7, hc7⟩
        have HB7 := Lib.hid (chP_bel hc7 HB6.out (Nat.le_refl _))
        have HL7 := Lib.hid hl7
        have HLn := Lib.hid hl7.len'
        unfold lnI at HLn
        have HGe := Lib.hid (Nat.le_trans HG.out (show (F2 c).length ≤ (catL (fun i => (F2 i).map (giveT 1)) n).length by
          have := cat_ge (fun i => (F2 i).map (giveT 1)) HCn.out
          simpa using this))
        obtain ⟨q, hq⟩ : ∃ q, q = (catL (fun i => (F2 i).map (giveT 1)) n).length := ⟨_, rfl⟩
        have HQ4 := Lib.hid (hl7.lp.2)
        rw [← hq] at HLn HGe HQ4 ⊢
        clear hl7 hc7 HCl
        go_frame
        go_wp2_with fail
        with_reducible refine HLn.out.mono ?_
        rintro e w8 ⟨rfl, hb8⟩
        have HL8 := Lib.hid (HL7.out.below hb8)
        have HB8 := Lib.hid (bel_bel HB7.out hb8)
        have HLn8 := Lib.hid HL8.out.len'
        unfold lnI at HLn8
        rw [← hq] at HLn8
        clear hb8 hq
        have hmn : (if (64 : Int) < (k : Int) then (64 : Int) else (k : Int)) = ((min k 64 : Nat) : Int) := by split <;> omega
        have hge : (q : Int) ≥ ((min k 64 : Nat) : Int) := by have := HGe.out; omega
        obtain ⟨mm, hmm⟩ : ∃ mm, mm = min k 64 := ⟨_, rfl⟩
        rw [← hmm] at hmn hge
        have hge2 : decide ((q : Int) ≥ (mm : Int)) = true := decide_eq_true hge
        clear hmm
        go_frame
        go_wp2_with fail
        with_reducible refine HLn8.out.mono ?_
        rintro e w9 ⟨rfl, hb9⟩
        have HB9 := Lib.hid (bel_bel HB8.out hb9)
        clear hb9
        go_frame
        go_wp2
        go_ret
        exact ⟨rfl, HB9.out⟩
      · have h1c : decide ((k : Int) < 64) = true := decide_eq_true (by omega)
        go_frame
        go_wp2_with fail
        with_reducible refine HK.out.mono ?_
        rintro e w4 ⟨rfl, hb4⟩
        have HL4 := Lib.hid (HL3.out.below hb4)
        have HB4 := Lib.hid (bel_bel HB3.out hb4)
        clear hb4
        go_frame
        go_wp2_with fail
        with_reducible refine (HL4.out.quiet ((Ch.refl [] w4).alloc (.cells #[.int .i64 1] 3))).add_out (.inr (Int.le_refl _)) _ |>.mono ?_
        rintro e w5 ⟨rfl, rfl⟩
        have HL5 := Lib.hid (HL4.out.quiet ((Ch.refl [] w4).alloc (.cells #[.int .i64 1] 3)))
        have HB5 := Lib.hid (HB4.out.alloc HB4.out.size (.cells #[.int .i64 1] 3))
        generalize w4.alloc (.cells #[.int .i64 1] 3) = w5 at *
        go_frame
        go_wp2_with fail
        with_reducible refine (HL5.out.quiet ((Ch.refl [] w5).alloc (.cells #[.int .i64 1] 3))).add_out (.inl (by decide)) _ |>.mono ?_
        rintro e w6 ⟨rfl, rfl⟩
        have HL6 := Lib.hid (HL5.out.quiet ((Ch.refl [] w5).alloc (.cells #[.int .i64 1] 3)))
        have HB6 := Lib.hid (HB5.out.alloc HB5.out.size (.cells #[.int .i64 1] 3))
        generalize w5.alloc (.cells #[.int .i64 1] 3) = w6 at *
        have HCl := Lib.hid (HL6.out.close (gen := 1) (by decide) (by decide))
        rw [sum_all HZ.out (giveT 1)] at HCl
        go_frame
        go_wp2_with fail
        with_reducible refine HCl.out.mono ?_
        rintro e w7 ⟨rfl, hl7, hc7⟩
        have HB7 := Lib.hid (chP_bel hc7 HB6.out (Nat.le_refl _))
        have HL7 := Lib.hid hl7
        have HLn := Lib.hid hl7.len'
        unfold lnI at HLn
        have HGe := Lib.hid (Nat.le_trans HG.out (show (F2 c).length ≤ (catL (fun i => (F2 i).map (giveT 1)) n).length by
          have := cat_ge (fun i => (F2 i).map (giveT 1)) HCn.out
          simpa using this))
        obtain ⟨q, hq⟩ : ∃ q, q = (catL (fun i => (F2 i).map (giveT 1)) n).length := ⟨_, rfl⟩
        have HQ4 := Lib.hid (hl7.lp.2)
        rw [← hq] at HLn HGe HQ4 ⊢
        clear hl7 hc7 HCl
        go_frame
        go_wp2_with fail
        with_reducible refine HLn.out.mono ?_
        rintro e w8 ⟨rfl, hb8⟩
        have HL8 := Lib.hid (HL7.out.below hb8)
        have HB8 := Lib.hid (bel_bel HB7.out hb8)
        have HLn8 := Lib.hid HL8.out.len'
        unfold lnI at HLn8
        rw [← hq] at HLn8
        clear hb8 hq
        have hmn : (if (64 : Int) < (k : Int) then (64 : Int) else (k : Int)) = ((min k 64 : Nat) : Int) := by split <;> omega
        have hge : (q : Int) ≥ ((min k 64 : Nat) : Int) := by have := HGe.out; omega
        obtain ⟨mm, hmm⟩ : ∃ mm, mm = min k 64 := ⟨_, rfl⟩
        rw [← hmm] at hmn hge
        have hge2 : decide ((q : Int) ≥ (mm : Int)) = true := decide_eq_true hge
        clear hmm
        go_frame
        go_wp2_with fail
        with_reducible refine HLn8.out.mono ?_
        rintro e w9 ⟨rfl, hb9⟩
        have HB9 := Lib.hid (bel_bel HB8.out hb9)
        clear hb9
        go_frame
        go_wp2
        go_ret
        exact ⟨rfl, HB9.out⟩
      · have h1c : decide ((k : Int) < 64) = false := decide_eq_false (by omega)
        go_frame
        go_wp2_with fail
        with_reducible refine HK.out.mono ?_
        rintro e w4 ⟨rfl, hb4⟩
        have HL4 := Lib.hid (HL3.out.below hb4)
        have HB4 := Lib.hid (bel_bel HB3.out hb4)
        clear hb4
        go_frame
        go_wp2_with fail
        with_reducible refine (HL4.out.quiet ((Ch.refl [] w4).alloc (.cells #[.int .i64 1] 3))).add_out (.inr (Int.le_refl _)) _ |>.mono ?_
        rintro e w5 ⟨rfl, rfl⟩
        have HL5 := Lib.hid (HL4.out.quiet ((Ch.refl [] w4).alloc (.cells #[.int .i64 1] 3)))
        have HB5 := Lib.hid (HB4.out.alloc HB4.out.size (.cells #[.int .i64 1] 3))
        generalize w4.alloc (.cells #[.int .i64 1] 3) = w5 at *
        go_frame
        go_wp2_with fail
        with_reducible refine (HL5.out.quiet ((Ch.refl [] w5).alloc (.cells #[.int .i64 1] 3))).add_out (.inl (by decide)) _ |>.mono ?_
        rintro e w6 ⟨rfl, rfl⟩
        have HL6 := Lib.hid (HL5.out.quiet ((Ch.refl [] w5).alloc (.cells #[.int .i64 1] 3)))
        have HB6 := Lib.hid (HB5.out.alloc HB5.out.size (.cells #[.int .i64 1] 3))
        generalize w5.alloc (.cells #[.int .i64 1] 3) = w6 at *
        have HCl := Lib.hid (HL6.out.close (gen := 1) (by decide) (by decide))
        rw [sum_all HZ.out (giveT 1)] at HCl
        go_frame
        go_wp2_with fail
        with_reducible refine HCl.out.mono ?_
        rintro e w7 ⟨rfl, hl7, hc7⟩
        have HB7 := Lib.hid (chP_bel hc7 HB6.out (Nat.le_refl _))
        have HL7 := Lib.hid hl7
        have HLn := Lib.hid hl7.len'
        unfold lnI at HLn
        have HGe := Lib.hid (Nat.le_trans HG.out (show (F2 c).length ≤ (catL (fun i => (F2 i).map (giveT 1)) n).length by
          have := cat_ge (fun i => (F2 i).map (giveT 1)) HCn.out
          simpa using this))
        obtain ⟨q, hq⟩ : ∃ q, q = (catL (fun i => (F2 i).map (giveT 1)) n).length := ⟨_, rfl⟩
        have HQ4 := Lib.hid (hl7.lp.2)
        rw [← hq] at HLn HGe HQ4 ⊢
        clear hl7 hc7 HCl
        go_frame
        go_wp2_with fail
        with_reducible refine HLn.out.mono ?_
        rintro e w8 ⟨rfl, hb8⟩
        have HL8 := Lib.hid (HL7.out.below hb8)
        have HB8 := Lib.hid (bel_bel HB7.out hb8)
        have HLn8 := Lib.hid HL8.out.len'
        unfold lnI at HLn8
        rw [← hq] at HLn8
        clear hb8 hq
        have hmn : (if (64 : Int) < (k : Int) then (64 : Int) else (k : Int)) = ((min k 64 : Nat) : Int) := by split <;> omega
        have hge : (q : Int) ≥ ((min k 64 : Nat) : Int) := by have := HGe.out; omega
        obtain ⟨mm, hmm⟩ : ∃ mm, mm = min k 64 := ⟨_, rfl⟩
        rw [← hmm] at hmn hge
        have hge2 : decide ((q : Int) ≥ (mm : Int)) = true := decide_eq_true hge
        clear hmm
        go_frame
        go_wp2_with fail
        with_reducible refine HLn8.out.mono ?_
        rintro e w9 ⟨rfl, hb9⟩
        have HB9 := Lib.hid (bel_bel HB8.out hb9)
        clear hb9
        go_frame
        go_wp2
        go_ret
        exact ⟨rfl, HB9.out⟩
theorem full_law (cpus cpu more : Int) (w : World) :
    Calls Try.prog 5 #[.int .i64 cpus, .int .i64 cpu, .int .i64 more] w fun e w' => e = .returned (.bool true) ∧ Below w.heap.size w w' := by
  by_cases h : cpus < 1 ∨ 64 < cpus
  · exact full_bad h cpu more w
  · obtain ⟨n, rfl⟩ := Int.eq_ofNat_of_zero_le (show 0 ≤ cpus by omega)
    exact full_ok (n := n) (by omega) (by omega) cpu more w
end Go.Proofs.Ytnnliimjemmekaa
