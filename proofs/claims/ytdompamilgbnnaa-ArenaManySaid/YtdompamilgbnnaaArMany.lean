/-
  The law ArenaMany, walked.
-/
import Derived.Test.YtdompamilgbnnaaAIK
import Derived.Test.YtdompamilgbnnaaArC
namespace Go.Proofs.Ytdompamilgbnnaa
open Go.RowKit aI

attribute [local go_sem] Oper.semAt_some

theorem good_free {xs : List (Sl Int)} (h : ∀ k, k < xs.length → good (at0 xs k)) (s g : Int) : ∀ k, k < (freeL xs s g).length → good (at0 (freeL xs s g) k) := by
  intro k hk
  rw [freeL_len] at hk
  unfold freeL
  split
  · rename_i h0
    obtain ⟨j, rfl, hj, hh, _⟩ := findE_zero h0
    rw [Int.toNat_natCast]
    by_cases e : k = j
    · subst e
      rw [at0_set_same _ _ _ hk]
      have := (h k hk).2 hh
      exact ⟨by show (at0 xs k).gen + 1 ≤ 256; omega, fun e => by cases e⟩
    · rw [at0_set_other _ _ _ _ e]; exact h k hk
  · exact h k hk

/-- An arena of n slots into which i things were put. -/
def filled (n i : Nat) : List (Sl Int) := (List.range n).map fun j : Nat => if j < i then ⟨1, true, (j : Int)⟩ else ⟨1, false, 0⟩
theorem filled_len (n i : Nat) : (filled n i).length = n := by simp [filled]
theorem filled_zero (n : Nat) : filled n 0 = fresh n := by
  apply List.ext_getElem (by simp [filled, fresh])
  intro j h1 h2
  simp [filled, fresh]
theorem at0_filled (n i j : Nat) (h : j < n) : at0 (filled n i) j = if j < i then ⟨1, true, (j : Int)⟩ else ⟨1, false, 0⟩ := by
  rw [at0_get _ _ (by rw [filled_len]; exact h)]; simp [filled]
theorem filled_first (n i : Nat) (h : i < n) : firstOf (filled n i) isFree = some i := by
  refine firstOf_at (by rw [filled_len]; exact h) (fun j hj => ?_) ?_
  · rw [at0_filled n i j (by omega), if_pos hj]; rfl
  · rw [at0_filled n i i h, if_neg (by omega)]; rfl
theorem filled_put (n i : Nat) (h : i < n) : putL (filled n i) (i : Int) = filled n (i + 1) := by
  rw [putL_some (filled_first n i h), at0_filled n i i h, if_neg (by omega)]
  apply List.ext_getElem (by simp [filled])
  intro j h1 h2
  rw [List.getElem_set]
  split
  · rename_i e; subst e; simp [filled]
  · rename_i e
    simp only [filled, List.getElem_map, List.getElem_range]
    by_cases e2 : j < i
    · rw [if_pos e2, if_pos (by omega)]
    · rw [if_neg e2, if_neg (by omega)]
theorem filled_good (n i : Nat) : ∀ k, k < (filled n i).length → good (at0 (filled n i) k) := by
  intro k hk
  rw [filled_len] at hk
  rw [at0_filled n i k hk]
  split
  · exact ⟨(by decide : (1 : Nat) ≤ 256), fun _ => (by decide : (1 : Nat) ≤ 255)⟩
  · exact ⟨(by decide : (1 : Nat) ≤ 256), fun e => by cases e⟩

theorem mput {S : Nat} {w W : World} {R n i : Nat} (h : St S w W R (filled n i)) (hi : i < n) :
    Calls Try.prog 13 #[.pointer (some ⟨R, 0, none⟩), .int .i64 (i : Int)] W fun e W' =>
      e = .returned (.tuple #[.agg #[.int .i64 (i : Int), .int .i64 1], .int .i64 0]) ∧ St S w W' R (filled n (i + 1)) ∧ Ch [S] W W' := by
  have hf := filled_first n i hi
  have h1 := put_st h (i : Int)
  obtain ⟨e1, e2, e3⟩ := putA_some hf
  rw [e1, e2, e3, filled_put n i hi, at0_filled n i i hi, if_neg (by omega)] at h1
  exact h1
theorem mrput {W : World} {D : Nat} {v : Value} {n i : Nat} (h : RS W D v (filled n i)) (hD : D ≤ W.heap.size) (hn : n ≤ 64) (hi : i < n) :
    Calls Try.prog 12 #[v, .int .i64 (i : Int)] W fun e w' => ∃ v', e = .returned (.tuple #[v', .int .i64 (i : Int), .int .i64 1, .int .i64 0]) ∧ RS w' D v' (filled n (i + 1)) ∧ Below W.heap.size W w' := by
  have hf := filled_first n i hi
  have h1 := rput_any h hD (by rw [filled_len]; exact hn) (i : Int)
  obtain ⟨e1, e2, e3⟩ := putA_some hf
  rw [e1, e2, e3, filled_put n i hi, at0_filled n i i hi, if_neg (by omega)] at h1
  exact h1

theorem many_tail (hs : List (Int × Int)) (xs ys : List (Sl Int)) (E : Int) (k : Nat) (h : (E = 0 ∧ freeN xs hs = freeN ys (hs.drop k)) ∨ (E ≠ 0 ∧ freeN xs hs = (ys, E))) (hk : k = hs.length ∨ E ≠ 0) : freeN xs hs = (ys, E) := by
  rcases h with ⟨rfl, h⟩ | ⟨_, h⟩
  · rcases hk with rfl | hk
    · rw [h, List.drop_of_length_le (Nat.le_refl _), freeN]
    · exact absurd rfl hk
  · exact h

set_option maxHeartbeats 4000000 in
theorem many_law (a0 : Int) (a : Option Addr) (len cap : Nat) (w : World) (hl : len ≤ cap) (hcp : cap ≤ 9223372036854775807) (hs : List (Int × Int)) (hlen : len = hs.length) (ha : HAt w a hs) :
    Calls Try.prog 6 #[.int .i64 a0, .slice a len cap] w fun e w' => e = .returned (.bool true) ∧ Below w.heap.size w w' := by
  have u0 : 0 ≤ IntKind.u64.wrap a0 ∧ IntKind.u64.wrap a0 < 18446744073709551616 := by rw [IntKind.wrap_u64]; omega
  generalize hg0 : IntKind.u64.wrap a0 = U0 at u0
  obtain ⟨u00, u01⟩ := u0
  obtain ⟨n, hn0, hn1, hn2⟩ : ∃ n : Nat, 1 + U0 % 8 = (n : Int) ∧ 1 ≤ n ∧ n ≤ 8 := ⟨(1 + U0 % 8).toNat, by omega⟩
  obtain ⟨S, hS⟩ : ∃ S, S = w.heap.size := ⟨_, rfl⟩
  have HNew := Lib.hid (new_st n w S hS.symm hn1 (by omega))
  have HS := Lib.hid hS
  have HA := Lib.hid ha
  have HLen := Lib.hid hlen
  rw [← hS]
  clear hS ha hlen
  go_enter Try.func6, Try.ntmps6
  go_wp2_with fail
  with_reducible refine HNew.out.mono ?_
  rintro e w1 ⟨R, rfl, h1⟩
  have H1 := Lib.hid h1
  clear h1 HNew
  go_wp2_with fail
  refine (rnew_any n w1 (by omega)).mono ?_
  rintro e w2 ⟨v2, rfl, hr2, hb2⟩
  have HR2 := Lib.hid (hr2.mono (show R + 1 ≤ w1.heap.size by have := H1.out.z; omega))
  have H2 := Lib.hid (H1.out.below hb2)
  clear hr2 hb2 H1
  go_wp2_with fail
  go_loopw [7, 8] (fun m i wr => ∃ (k : Nat) (v : Value), k ≤ n ∧ i = .int .i64 (k : Int) ∧ m = v ∧ RS wr (R + 1) v (filled n k) ∧ St S w wr R (filled n k)) (fun _ i _ => n - (intOf i).toNat)
  case atStart => exact ⟨0, _, Nat.zero_le _, rfl, rfl, by rw [filled_zero]; exact HR2.out, by rw [filled_zero]; exact H2.out⟩
  case round =>
    obtain ⟨k, v, hk, rfl, rfl, hr, hst⟩ := hrel
    have HR := Lib.hid hr
    have HSt := Lib.hid hst
    clear hr hst HR2 H2
    by_cases hlt : k < n
    · go_wp2_with fail
      with_reducible refine (mput HSt.out hlt).mono ?_
      rintro e w3 ⟨rfl, h3, hc3⟩
      have hr3 := HR.out.ch hc3 (by have := HSt.out.r; simp; omega)
      have HR3 := Lib.hid (hr3.ch (S := []) ((Ch.refl [] w3).alloc (.cells #[.int .i64 (k : Int), .int .i64 1] 33)) (by simp))
      have H3 := Lib.hid (h3.alloc (.cells #[.int .i64 (k : Int), .int .i64 1] 33))
      have hsz : R + 1 ≤ (w3.alloc (.cells #[.int .i64 (k : Int), .int .i64 1] 33)).heap.size := H3.out.z
      have HSz := Lib.hid hsz
      clear hr3 h3 hc3 HR HSt hsz
      go_wp2_with fail
      generalize w3.alloc (.cells #[.int .i64 (k : Int), .int .i64 1] 33) = w4 at *
      with_reducible refine (mrput HR3.out HSz.out (by omega) hlt).mono ?_
      rintro e w5 ⟨v5, rfl, hr5, hb5⟩
      have HR5 := Lib.hid hr5
      have H5 := Lib.hid (H3.out.below hb5)
      clear hr5 hb5 HR3 H3 HSz
      go_wp2_with fail
      go_roundw
      case rel => exact ⟨k + 1, _, by omega, by go_num, rfl, HR5.out, H5.out⟩
      case measure => simp [intOf]; omega
    · obtain rfl : k = n := by omega
      clear hlt hk
      have hcase : len ≤ 20 ∨ 20 < len := by omega
      rcases hcase with hm | hm
      · have hd20 : decide ((20 : Int) < (len : Int)) = false := by simp; omega
        obtain ⟨hs', hm1, hm3⟩ : ∃ hs', len = hs'.length ∧ HAt w a hs' := ⟨hs, HLen.out, HA.out⟩
        have HM := Lib.hid hm1
        have HA' := Lib.hid hm3
        clear hm1 hm3
        go_wp2_with fail
        go_loopw [7, 11, 12] (fun m e i wr => ∃ (j : Nat) (v : Value) (ys : List (Sl Int)) (E : Int), j ≤ len ∧ i = .int .i64 (j : Int) ∧ m = v ∧ e = .int .i64 E ∧ RS wr (R + 1) v ys ∧ ys.length = k ∧ (∀ q, q < ys.length → good (at0 ys q)) ∧
          ((E = 0 ∧ freeN (filled k k) hs' = freeN ys (hs'.drop j)) ∨ (E ≠ 0 ∧ freeN (filled k k) hs' = (ys, E))) ∧ St S w wr R (filled k k)) (fun _ _ i _ => len - (intOf i).toNat)
        case atStart => exact ⟨0, _, _, 0, Nat.zero_le _, rfl, rfl, rfl, HR.out, filled_len _ _, filled_good _ _, .inl ⟨rfl, rfl⟩, HSt.out⟩
        case round =>
          obtain ⟨j, v, ys, E, hj, rfl, rfl, rfl, hr, hyl, hyg, hE, hst⟩ := hrel
          clear HR HSt
          have HR := Lib.hid hr
          have HSt := Lib.hid hst
          have HEs := Lib.hid hE
          have HYl := Lib.hid hyl
          have HYg := Lib.hid hyg
          have hz := HSt.out.z
          clear hr hst hE hyl hyg
          by_cases hlt : j < len ∧ E = 0
          · obtain ⟨hlt, rfl⟩ := hlt
            have hEs : freeN (filled k k) hs' = freeN ys (hs'.drop j) := by
              rcases HEs.out with ⟨_, h⟩ | ⟨h, _⟩
              · exact h
              · exact absurd rfl h
            have hd : ((0 : Int) == 0) = true := rfl
            have hjl : (j : Int) < (len : Int) := by omega
            rcases HA'.out with h0 | ⟨b, off, rfl, hcs⟩
            · exfalso; have := HM.out; rw [h0, List.length_nil] at this; omega
            · have hk' : j < hs'.length := by rw [← HM.out]; exact hlt
              obtain ⟨hca, hcb⟩ := hcs j hk'
              have hdrop : hs'.drop j = hs'[j]?.getD (0, 0) :: hs'.drop (j + 1) := by
                rw [List.drop_eq_getElem_cons hk']; simp [hk']
              rw [hdrop] at hEs
              clear hcs hdrop hk'
              generalize hs'[j]?.getD (0, 0) = p at *
              obtain ⟨s, g⟩ := p
              simp only at hca hcb
              have hbS : b < S := by rw [HS.out]; exact cell_lt hca
              have hca' := (HSt.out.b.cell (p := ⟨b, off + j * 2, none⟩) hbS).trans hca
              have hcb' := (HSt.out.b.cell (p := ⟨b, off + j * 2 + 1, none⟩) hbS).trans hcb
              have HFr := Lib.hid (rfree_any (w := wr.drew) (D := R + 1) (xs := ys) HR.out (by show R + 1 ≤ wr.heap.size; omega) (by rw [HYl.out]; omega) HYg.out s g)
              have HD := Lib.hid (show (findE ys s g = 0 ∧ freeN (filled k k) hs' = freeN (freeL ys s g) (hs'.drop (j + 1))) ∨ (findE ys s g ≠ 0 ∧ freeN (filled k k) hs' = (freeL ys s g, findE ys s g)) by
                rw [hEs]
                by_cases h0 : findE ys s g = 0
                · exact .inl ⟨h0, by rw [freeN, if_pos h0]⟩
                · refine .inr ⟨h0, ?_⟩
                  rw [freeN, if_neg h0]
                  unfold freeL
                  rw [if_neg h0])
              have HG2 := Lib.hid (good_free HYg.out s g)
              clear hca hcb hEs hbS HEs
              have hb0 : (0 : Int) ≤ (j : Int) := by omega
              have ht : ((j : Int)).toNat = j := rfl
              go_wp2
              go_region_with (go_at_call 16; refine HFr.out.mono ?_; rintro e w6 ⟨v6, rfl, hr6, hb6⟩)
              all_goals
                have HR6 := Lib.hid hr6
                have H6 := Lib.hid ((HSt.out.quiet ((Ch.refl [] wr).drew)).below hb6)
                clear hr6 hb6 hca' hcb'
                go_wp2_with fail
                go_roundw
                case rel => exact ⟨j + 1, _, freeL ys s g, findE ys s g, by omega, by go_num, rfl, rfl, HR6.out, by rw [freeL_len]; exact HYl.out, HG2.out, HD.out, H6.out⟩
                case measure => simp [intOf]; omega
          · have HFin := Lib.hid (many_tail hs' (filled k k) ys E j HEs.out (by
              by_cases h0 : E = 0
              · left; have := HM.out; omega
              · exact .inr h0))
            have HC := Lib.hid (rcount_any HR.out (by rw [HYl.out]; omega))
            clear HEs
            have hcs : (j < len ∧ ¬ E = 0) ∨ j = len := by omega
            rcases hcs with ⟨hj1, hj2⟩ | hj1
            · have hd : (E == 0) = false := by simpa using hj2
              have hjl : (j : Int) < (len : Int) := by omega
              clear hlt
              go_wp2_with fail
              with_reducible refine HC.out.mono ?_
              rintro e w6 ⟨rfl, rfl⟩
              go_wp2_with fail
              with_reducible refine (known_any _).mono ?_
              rintro e w7 ⟨rfl, hb7⟩
              have H7 := Lib.hid (HSt.out.below hb7)
              have ha7 : HAt w7 a hs' := HA'.out.ch (S := []) (Ch.of_below (HS.out ▸ H7.out.b)) (by simp)
              have hfar : hs' ≠ [] → ∀ x, a = some x → x.block ∉ [S] := fun hne x hx => by
                rcases HA'.out with h | ⟨b, off, rfl, h⟩
                · exact absurd h hne
                · cases hx
                  have h0 := cell_lt (h 0 (List.length_pos_iff.2 hne)).1
                  have := HS.out
                  simp at h0 ⊢
                  omega
              have hf7 := free_many H7.out.a a cap hs' ha7 (by rw [← HM.out]; omega) hfar
              rw [HFin.out, ← HM.out] at hf7
              have HF7 := Lib.hid hf7
              clear hb7 ha7 hfar hf7 HR
              go_wp2_with fail
              with_reducible refine HF7.out.mono ?_
              rintro e w8 ⟨rfl, ha8, hc8⟩
              have H8 := Lib.hid (H7.out.put hc8 ha8)
              clear ha8 hc8 H7 HF7 HSt
              go_wp2_with fail
              with_reducible refine (len_st H8.out).mono ?_
              rintro e w9 ⟨rfl, h9, _⟩
              have H9 := Lib.hid h9
              clear h9 H8
              go_wp2_with fail
              with_reducible refine (room_st H9.out).mono ?_
              rintro e w10 ⟨rfl, h10, _⟩
              have HB := Lib.hid h10.b
              clear h10 H9
              go_wp2
              go_ret
              exact ⟨rfl, HB.out⟩
            · have hjl : decide ((j : Int) < (len : Int)) = false := by simp; omega
              clear hlt
              go_wp2_with fail
              with_reducible refine HC.out.mono ?_
              rintro e w6 ⟨rfl, rfl⟩
              go_wp2_with fail
              with_reducible refine (known_any _).mono ?_
              rintro e w7 ⟨rfl, hb7⟩
              have H7 := Lib.hid (HSt.out.below hb7)
              have ha7 : HAt w7 a hs' := HA'.out.ch (S := []) (Ch.of_below (HS.out ▸ H7.out.b)) (by simp)
              have hfar : hs' ≠ [] → ∀ x, a = some x → x.block ∉ [S] := fun hne x hx => by
                rcases HA'.out with h | ⟨b, off, rfl, h⟩
                · exact absurd h hne
                · cases hx
                  have h0 := cell_lt (h 0 (List.length_pos_iff.2 hne)).1
                  have := HS.out
                  simp at h0 ⊢
                  omega
              have hf7 := free_many H7.out.a a cap hs' ha7 (by rw [← HM.out]; omega) hfar
              rw [HFin.out, ← HM.out] at hf7
              have HF7 := Lib.hid hf7
              clear hb7 ha7 hfar hf7 HR
              go_wp2_with fail
              with_reducible refine HF7.out.mono ?_
              rintro e w8 ⟨rfl, ha8, hc8⟩
              have H8 := Lib.hid (H7.out.put hc8 ha8)
              clear ha8 hc8 H7 HF7 HSt
              go_wp2_with fail
              with_reducible refine (len_st H8.out).mono ?_
              rintro e w9 ⟨rfl, h9, _⟩
              have H9 := Lib.hid h9
              clear h9 H8
              go_wp2_with fail
              with_reducible refine (room_st H9.out).mono ?_
              rintro e w10 ⟨rfl, h10, _⟩
              have HB := Lib.hid h10.b
              clear h10 H9
              go_wp2
              go_ret
              exact ⟨rfl, HB.out⟩
      · have hd20 : decide ((20 : Int) < (len : Int)) = true := by simp; omega
        obtain ⟨hs', hm1, hm3⟩ : ∃ hs' : List (Int × Int), 20 = hs'.length ∧ HAt w a hs' := by
          refine ⟨hs.take 20, by rw [List.length_take, ← HLen.out]; omega, ?_⟩
          rcases HA.out with h | ⟨b, off, rfl, h⟩
          · exact .inl (by simp [h])
          · refine .inr ⟨b, off, rfl, fun i hi => ?_⟩
            rw [List.length_take] at hi
            have := h i (by omega)
            rw [List.getElem?_take_of_lt (by omega)]
            exact this
        have HM := Lib.hid hm1
        have HA' := Lib.hid hm3
        clear hm1 hm3
        go_wp2_with fail
        go_loopw [7, 11, 12] (fun m e i wr => ∃ (j : Nat) (v : Value) (ys : List (Sl Int)) (E : Int), j ≤ 20 ∧ i = .int .i64 (j : Int) ∧ m = v ∧ e = .int .i64 E ∧ RS wr (R + 1) v ys ∧ ys.length = k ∧ (∀ q, q < ys.length → good (at0 ys q)) ∧
          ((E = 0 ∧ freeN (filled k k) hs' = freeN ys (hs'.drop j)) ∨ (E ≠ 0 ∧ freeN (filled k k) hs' = (ys, E))) ∧ St S w wr R (filled k k)) (fun _ _ i _ => 20 - (intOf i).toNat)
        case atStart => exact ⟨0, _, _, 0, Nat.zero_le _, rfl, rfl, rfl, HR.out, filled_len _ _, filled_good _ _, .inl ⟨rfl, rfl⟩, HSt.out⟩
        case round =>
          obtain ⟨j, v, ys, E, hj, rfl, rfl, rfl, hr, hyl, hyg, hE, hst⟩ := hrel
          clear HR HSt
          have HR := Lib.hid hr
          have HSt := Lib.hid hst
          have HEs := Lib.hid hE
          have HYl := Lib.hid hyl
          have HYg := Lib.hid hyg
          have hz := HSt.out.z
          clear hr hst hE hyl hyg
          by_cases hlt : j < 20 ∧ E = 0
          · obtain ⟨hlt, rfl⟩ := hlt
            have hEs : freeN (filled k k) hs' = freeN ys (hs'.drop j) := by
              rcases HEs.out with ⟨_, h⟩ | ⟨h, _⟩
              · exact h
              · exact absurd rfl h
            have hd : ((0 : Int) == 0) = true := rfl
            have hjl : (j : Int) < (20 : Int) := by omega
            rcases HA'.out with h0 | ⟨b, off, rfl, hcs⟩
            · exfalso; have := HM.out; rw [h0, List.length_nil] at this; omega
            · have hk' : j < hs'.length := by rw [← HM.out]; exact hlt
              obtain ⟨hca, hcb⟩ := hcs j hk'
              have hdrop : hs'.drop j = hs'[j]?.getD (0, 0) :: hs'.drop (j + 1) := by
                rw [List.drop_eq_getElem_cons hk']; simp [hk']
              rw [hdrop] at hEs
              clear hcs hdrop hk'
              generalize hs'[j]?.getD (0, 0) = p at *
              obtain ⟨s, g⟩ := p
              simp only at hca hcb
              have hbS : b < S := by rw [HS.out]; exact cell_lt hca
              have hca' := (HSt.out.b.cell (p := ⟨b, off + j * 2, none⟩) hbS).trans hca
              have hcb' := (HSt.out.b.cell (p := ⟨b, off + j * 2 + 1, none⟩) hbS).trans hcb
              have HFr := Lib.hid (rfree_any (w := wr.drew) (D := R + 1) (xs := ys) HR.out (by show R + 1 ≤ wr.heap.size; omega) (by rw [HYl.out]; omega) HYg.out s g)
              have HD := Lib.hid (show (findE ys s g = 0 ∧ freeN (filled k k) hs' = freeN (freeL ys s g) (hs'.drop (j + 1))) ∨ (findE ys s g ≠ 0 ∧ freeN (filled k k) hs' = (freeL ys s g, findE ys s g)) by
                rw [hEs]
                by_cases h0 : findE ys s g = 0
                · exact .inl ⟨h0, by rw [freeN, if_pos h0]⟩
                · refine .inr ⟨h0, ?_⟩
                  rw [freeN, if_neg h0]
                  unfold freeL
                  rw [if_neg h0])
              have HG2 := Lib.hid (good_free HYg.out s g)
              clear hca hcb hEs hbS HEs
              have hb0 : (0 : Int) ≤ (j : Int) := by omega
              have ht : ((j : Int)).toNat = j := rfl
              go_wp2
              go_region_with (go_at_call 16; refine HFr.out.mono ?_; rintro e w6 ⟨v6, rfl, hr6, hb6⟩)
              all_goals
                have HR6 := Lib.hid hr6
                have H6 := Lib.hid ((HSt.out.quiet ((Ch.refl [] wr).drew)).below hb6)
                clear hr6 hb6 hca' hcb'
                go_wp2_with fail
                go_roundw
                case rel => exact ⟨j + 1, _, freeL ys s g, findE ys s g, by omega, by go_num, rfl, rfl, HR6.out, by rw [freeL_len]; exact HYl.out, HG2.out, HD.out, H6.out⟩
                case measure => simp [intOf]; omega
          · have HFin := Lib.hid (many_tail hs' (filled k k) ys E j HEs.out (by
              by_cases h0 : E = 0
              · left; have := HM.out; omega
              · exact .inr h0))
            have HC := Lib.hid (rcount_any HR.out (by rw [HYl.out]; omega))
            clear HEs
            have hcs : (j < 20 ∧ ¬ E = 0) ∨ j = 20 := by omega
            rcases hcs with ⟨hj1, hj2⟩ | hj1
            · have hd : (E == 0) = false := by simpa using hj2
              have hjl : (j : Int) < (20 : Int) := by omega
              clear hlt
              go_wp2_with fail
              with_reducible refine HC.out.mono ?_
              rintro e w6 ⟨rfl, rfl⟩
              go_wp2_with fail
              with_reducible refine (known_any _).mono ?_
              rintro e w7 ⟨rfl, hb7⟩
              have H7 := Lib.hid (HSt.out.below hb7)
              have ha7 : HAt w7 a hs' := HA'.out.ch (S := []) (Ch.of_below (HS.out ▸ H7.out.b)) (by simp)
              have hfar : hs' ≠ [] → ∀ x, a = some x → x.block ∉ [S] := fun hne x hx => by
                rcases HA'.out with h | ⟨b, off, rfl, h⟩
                · exact absurd h hne
                · cases hx
                  have h0 := cell_lt (h 0 (List.length_pos_iff.2 hne)).1
                  have := HS.out
                  simp at h0 ⊢
                  omega
              have hf7 := free_many H7.out.a a cap hs' ha7 (by rw [← HM.out]; omega) hfar
              rw [HFin.out, ← HM.out] at hf7
              have HF7 := Lib.hid hf7
              clear hb7 ha7 hfar hf7 HR
              go_wp2_with fail
              with_reducible refine HF7.out.mono ?_
              rintro e w8 ⟨rfl, ha8, hc8⟩
              have H8 := Lib.hid (H7.out.put hc8 ha8)
              clear ha8 hc8 H7 HF7 HSt
              go_wp2_with fail
              with_reducible refine (len_st H8.out).mono ?_
              rintro e w9 ⟨rfl, h9, _⟩
              have H9 := Lib.hid h9
              clear h9 H8
              go_wp2_with fail
              with_reducible refine (room_st H9.out).mono ?_
              rintro e w10 ⟨rfl, h10, _⟩
              have HB := Lib.hid h10.b
              clear h10 H9
              go_wp2
              go_ret
              exact ⟨rfl, HB.out⟩
            · have hjl : decide ((j : Int) < (20 : Int)) = false := by simp; omega
              clear hlt
              go_wp2_with fail
              with_reducible refine HC.out.mono ?_
              rintro e w6 ⟨rfl, rfl⟩
              go_wp2_with fail
              with_reducible refine (known_any _).mono ?_
              rintro e w7 ⟨rfl, hb7⟩
              have H7 := Lib.hid (HSt.out.below hb7)
              have ha7 : HAt w7 a hs' := HA'.out.ch (S := []) (Ch.of_below (HS.out ▸ H7.out.b)) (by simp)
              have hfar : hs' ≠ [] → ∀ x, a = some x → x.block ∉ [S] := fun hne x hx => by
                rcases HA'.out with h | ⟨b, off, rfl, h⟩
                · exact absurd h hne
                · cases hx
                  have h0 := cell_lt (h 0 (List.length_pos_iff.2 hne)).1
                  have := HS.out
                  simp at h0 ⊢
                  omega
              have hf7 := free_many H7.out.a a cap hs' ha7 (by rw [← HM.out]; omega) hfar
              rw [HFin.out, ← HM.out] at hf7
              have HF7 := Lib.hid hf7
              clear hb7 ha7 hfar hf7 HR
              go_wp2_with fail
              with_reducible refine HF7.out.mono ?_
              rintro e w8 ⟨rfl, ha8, hc8⟩
              have H8 := Lib.hid (H7.out.put hc8 ha8)
              clear ha8 hc8 H7 HF7 HSt
              go_wp2_with fail
              with_reducible refine (len_st H8.out).mono ?_
              rintro e w9 ⟨rfl, h9, _⟩
              have H9 := Lib.hid h9
              clear h9 H8
              go_wp2_with fail
              with_reducible refine (room_st H9.out).mono ?_
              rintro e w10 ⟨rfl, h10, _⟩
              have HB := Lib.hid h10.b
              clear h10 H9
              go_wp2
              go_ret
              exact ⟨rfl, HB.out⟩
end Go.Proofs.Ytdompamilgbnnaa
