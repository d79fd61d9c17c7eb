/-
  The walks of the laws MaskWalks and MaskFair.
-/
import Derived.Test.YtajpjmnkjpildaaDoorMaskN
import Derived.Test.YtajpjmnkjpildaaDoorMaskQ
namespace Go.Proofs.YtajpjmnkjpildaaDoor
open Go.RowKit

set_option maxHeartbeats 2000000 in
theorem walks_law (m : Nat) (hm : m < 18446744073709551616) (w : World) (hT : Tab w) :
    Calls Tryd.prog 7 #[.int .u64 (m : Int)] w fun e w' => e = .returned (.bool true) ∧ Below w.heap.size w w' := by
  have hg := tab_pos hT
  have HT := Lib.hid hT
  have HM := Lib.hid hm
  clear hT hm
  go_enter Tryd.func7, Tryd.ntmps7
  go_wp2_with fail
  refine (list_any m HM.out w HT.out).mono ?_
  rintro e w1 ⟨v, rfl, hown, hb1⟩
  obtain ⟨a1, cap1, rfl, hi1⟩ := own_ints hown
  have HI := Lib.hid hi1
  have HB1 := Lib.hid hb1
  have hl64 := ones_le m
  obtain ⟨n, hn⟩ : ∃ n, n = (Pl.ones m).length := ⟨_, rfl⟩
  rw [← hn] at hl64 ⊢
  have HN := Lib.hid hn
  clear hown hi1 hb1 hn
  go_wp2
  go_loopw [5, 6] (fun at' i wr => ∃ k A : Nat, k ≤ n ∧ i = .int .i64 (k : Int) ∧ at' = .int .i64 (A : Int) ∧ A = atN m k ∧ Below w1.heap.size w1 wr) (fun _ i _ => n - (intOf i).toNat)
  case atStart => exact ⟨0, 0, by omega, rfl, rfl, rfl, Below.refl _ _⟩
  case round =>
    obtain ⟨k, A, hk, rfl, rfl, hA, hB⟩ := hrel
    have HA := Lib.hid hA
    have HB := Lib.hid hB
    have HBW := Lib.hid (HB1.out.trans (HB.out.mono HB1.out.size))
    clear hA hB
    by_cases hlt : k < n
    · have hx : (Pl.ones m)[k]? = some ((Pl.ones m)[k]'(by rw [← HN.out]; exact hlt)) := List.getElem?_eq_getElem _
      generalize (Pl.ones m)[k]'(by rw [← HN.out]; exact hlt) = x at hx
      obtain ⟨q1, q2, q3, q4⟩ := walk_hit m k x hx
      have hnx := next_any m HM.out (A : Int) wr (HT.out.below HBW.out hg)
      rw [HA.out, q1, q2, ← HA.out] at hnx
      have HNX := Lib.hid hnx
      have hhas : ∀ w', Calls Tryd.prog 13 #[.int .u64 (m : Int), .int .i64 (x : Int)] w' fun e w'' => e = .returned (.bool true) ∧ w' = w'' := fun w' => by
        have := has_any m (x : Int) HM.out w'
        rwa [q3] at this
      have HHAS := Lib.hid hhas
      have HQ4 := Lib.hid q4
      have hx64 : x < 64 := (mem_ones.1 (List.mem_iff_getElem?.2 ⟨k, hx⟩)).1
      have hcell : ∃ b off, a1 = some ⟨b, off, none⟩ ∧ w1.cell? ⟨b, off + k, none⟩ = some (.int .i64 (x : Int)) := by
        rcases HI.out with h0 | ⟨b, off, rfl, hc⟩
        · exfalso; rw [List.map_eq_nil_iff] at h0; rw [HN.out, h0] at hlt; simp at hlt
        · refine ⟨b, off, rfl, ?_⟩
          rw [hc k (by rw [List.length_map, ← HN.out]; exact hlt), List.getElem?_map, hx]
          rfl
      obtain ⟨b, off, rfl, hc1⟩ := hcell
      have HC1 := Lib.hid hc1
      clear hx q1 q2 q3 q4 hnx hhas hc1
      go_wp2_with fail
      refine HNX.out.mono ?_
      rintro e w3 ⟨rfl, hb3⟩
      have HB3 := Lib.hid (HB.out.trans (hb3.mono HB.out.size))
      have hc3 : w3.cell? ⟨b, off + k, none⟩ = some (.int .i64 (x : Int)) := (HB3.out.cell (p := ⟨b, off + k, none⟩) (cell_lt HC1.out)).trans HC1.out
      have hxx : ((x : Int) != (x : Int)) = false := by simp
      clear hb3
      go_wp2_with (go_at_call 13; refine (HHAS.out _).mono ?_; rintro e w' ⟨rfl, rfl⟩)
      go_roundw
      case rel => exact ⟨k + 1, x + 1, by omega, by go_num, by go_num, HQ4.out.symm, HB3.out⟩
      case measure => simp [intOf]; omega
    · have hkn : k = n := by omega
      have hend := walk_end m
      rw [← HN.out, ← hkn, ← HA.out] at hend
      have hnx := next_any m HM.out (A : Int) wr (HT.out.below HBW.out hg)
      rw [hend] at hnx
      have HNX := Lib.hid hnx
      clear hend hnx
      go_wp2_with fail
      refine HNX.out.mono ?_
      rintro e w3 ⟨rfl, hb3⟩
      have HB3 := Lib.hid (HBW.out.trans (hb3.mono HBW.out.size))
      clear hb3
      go_wp2_with fail
      refine (known_any _ (HT.out.below HB3.out hg)).mono ?_
      rintro e w4 ⟨rfl, hb4⟩
      have HB4 := Lib.hid (HB3.out.trans (hb4.mono HB3.out.size))
      clear hb4
      go_wp2_with fail
      refine (len_any m HM.out w4).mono ?_
      rintro e w5 ⟨rfl, rfl⟩
      rw [Pl.pc_ones, ← HN.out]
      go_wp2
      go_ret
      exact ⟨rfl, HB4.out⟩

theorem of_nil (w : World) : Calls Tryd.prog 20 #[.slice none 0 0] w fun e w' => e = .returned (.int .u64 0) ∧ w = w' := of_any none 0 [] w (by decide) (.inl rfl)
theorem with_one (m : Nat) (hm : m < 18446744073709551616) (x : Int) (w : World) : Calls Tryd.prog 9 #[.int .u64 (m : Int), .slice (some ⟨w.heap.size, 0, none⟩) 1 1] (w.alloc (.cells #[.int .i64 x] 3)) fun e w' => e = .returned (.int .u64 ((withN m [x] : Nat) : Int)) ∧ w.alloc (.cells #[.int .i64 x] 3) = w' :=
  with_any m hm (some ⟨w.heap.size, 0, none⟩) 1 [x] _ (by simp) (ints_lit w [x] 3)

set_option maxHeartbeats 2000000 in
theorem fair_law (m : Nat) (hm : m < 18446744073709551616) (from' : Int) (w : World) (hT : Tab w) :
    Calls Tryd.prog 8 #[.int .u64 (m : Int), .int .i64 from'] w fun e w' => e = .returned (.bool true) ∧ Below w.heap.size w w' := by
  have hg := tab_pos hT
  have HT := Lib.hid hT
  have HM := Lib.hid hm
  clear hT hm
  cases hany : aroundB m from'
  · obtain rfl := around_none m HM.out from' hany
    have har := around_any 0 HM.out from' w HT.out
    rw [hany] at har
    have HAR := Lib.hid har
    clear hany har
    go_enter Tryd.func8, Tryd.ntmps8
    go_wp2_with fail
    refine HAR.out.mono ?_
    rintro e w1 ⟨rfl, hb1⟩
    have HB1 := Lib.hid hb1
    clear hb1
    go_wp2_with fail
    refine (known_any _ (HT.out.below HB1.out hg)).mono ?_
    rintro e w2 ⟨rfl, hb2⟩
    have HB2 := Lib.hid (HB1.out.trans (hb2.mono HB1.out.size))
    clear hb2
    go_wp2_with fail
    have hlen := len_any 0 (by decide) w2
    rw [Pl.pc_ones, Pl.ones_zero] at hlen
    refine hlen.mono ?_
    rintro e w3 ⟨rfl, rfl⟩
    go_wp2
    go_ret
    exact ⟨rfl, HB2.out⟩
  · obtain ⟨s, hs⟩ := around_some m from' hany
    have har := around_any m HM.out from' w HT.out
    rw [hany] at har
    obtain ⟨y, hy⟩ : ∃ y, y = aroundV m from' := ⟨_, rfl⟩
    rw [← hy] at har hs
    have hsl := (List.getElem?_eq_some_iff.1 hs).1
    obtain ⟨n, hn⟩ : ∃ n, n = (Pl.ones m).length := ⟨_, rfl⟩
    have hl64 := ones_le m
    rw [← hn] at hl64 hsl
    have hlen := len_any m HM.out
    rw [Pl.pc_ones, ← hn] at hlen
    have HAR := Lib.hid har
    have HLEN := Lib.hid hlen
    have HN := Lib.hid hn
    have HS := Lib.hid hs
    clear hany har hy hlen hn hs
    go_enter Tryd.func8, Tryd.ntmps8
    go_wp2_with fail
    refine HAR.out.mono ?_
    rintro e w1 ⟨rfl, hb1⟩
    have HB1 := Lib.hid hb1
    clear hb1
    go_wp2_with fail
    refine (of_nil w1).mono ?_
    rintro e w2 ⟨rfl, rfl⟩
    go_wp2
    go_loopw [8, 9, 10] (fun seen at' i wr => ∃ k S x : Nat, k ≤ n ∧ i = .int .i64 (k : Int) ∧ at' = .int .i64 (x : Int) ∧ seen = .int .u64 (S : Int) ∧ S = withN 0 (seenZ m s k) ∧ (Pl.ones m)[idx n s k]? = some x ∧ Below w.heap.size w wr) (fun _ _ i _ => n - (intOf i).toNat)
    case atStart => exact ⟨0, 0, y, by omega, rfl, rfl, rfl, rfl, by rw [idx_zero n s hsl]; exact HS.out, HB1.out⟩
    case round =>
      obtain ⟨k, S, x, hk, rfl, rfl, rfl, hS, hx, hB⟩ := hrel
      have HSN := Lib.hid hS
      have HX := Lib.hid hx
      have HBW := Lib.hid hB
      have hSl : S < 18446744073709551616 := by rw [hS]; exact withN_lt _ _ (by decide)
      have HSL := Lib.hid hSl
      clear hS hx hB hSl
      by_cases hlt : k < n
      · have hx64 := mem_ones.1 (List.mem_iff_getElem?.2 ⟨_, HX.out⟩)
        have h1 : hasb S (x : Int) = false := by
          have := seen_not m s k x (by rw [← HN.out]; exact hsl) (by rw [← HN.out]; exact hlt) (by rw [← HN.out]; exact HX.out)
          rw [HSN.out]; exact this
        have h2 : hasb m (x : Int) = true := by rw [hasb, Int.toNat_natCast, hx64.2]; simp; omega
        have c1 := has_any S (x : Int) HSL.out wr
        rw [h1] at c1
        have c2 := has_any m (x : Int) HM.out wr
        rw [h2] at c2
        have HC1 := Lib.hid c1
        have HC2 := Lib.hid c2
        have hx63 := hx64.1
        clear h1 h2 c1 c2 hx64
        go_wp2_with fail
        refine (HLEN.out wr).mono ?_
        rintro e w3 ⟨rfl, rfl⟩
        go_wp2_with fail
        refine HC1.out.mono ?_
        rintro e w3 ⟨rfl, rfl⟩
        go_wp2_with fail
        refine HC2.out.mono ?_
        rintro e w3 ⟨rfl, rfl⟩
        go_wp2_with fail
        refine (with_one S HSL.out (x : Int) wr).mono ?_
        rintro e w3 ⟨rfl, rfl⟩
        have HB3 := Lib.hid (HBW.out.alloc HBW.out.size (.cells #[.int .i64 (x : Int)] 3))
        have hnx := around_next m _ x HX.out
        rw [← HN.out, idx_succ n s k hsl hlt] at hnx
        have har := around_any m HM.out ((x : Int) + 1) _ (HT.out.below HB3.out hg)
        obtain ⟨x', hx'⟩ : ∃ x', x' = aroundV m ((x : Int) + 1) := ⟨_, rfl⟩
        rw [← hx'] at hnx har
        have HNX := Lib.hid hnx
        have HAR2 := Lib.hid har
        clear hx' hnx har
        go_wp2_with fail
        refine HAR2.out.mono ?_
        rintro e w4 ⟨rfl, hb4⟩
        have HB4 := Lib.hid (HB3.out.trans (hb4.mono HB3.out.size))
        clear hb4
        go_wp2
        go_roundw
        case rel => exact ⟨k + 1, _, x', by omega, by go_num, rfl, rfl, by rw [seenZ_succ m s k x (by rw [← HN.out]; exact HX.out), withN_append, ← HSN.out], HNX.out, HB4.out⟩
        case measure => simp [intOf]; omega
      · have hkn : k = n := by omega
        have hSm : S = m := by
          rw [HSN.out, hkn, HN.out]
          exact seen_all m s HM.out (by rw [← HN.out]; exact hsl)
        have hxy : x = y := by
          have := HX.out
          rw [hkn, idx_n] at this
          have h2 := HS.out
          rw [this] at h2
          injection h2
        subst hSm
        subst hxy
        go_wp2_with fail
        refine (HLEN.out wr).mono ?_
        rintro e w3 ⟨rfl, rfl⟩
        go_wp2_with fail
        refine (known_any _ (HT.out.below HBW.out hg)).mono ?_
        rintro e w4 ⟨rfl, hb4⟩
        have HB4 := Lib.hid (HBW.out.trans (hb4.mono HBW.out.size))
        clear hb4
        go_wp2
        go_ret
        exact ⟨rfl, HB4.out⟩
end Go.Proofs.YtajpjmnkjpildaaDoor
