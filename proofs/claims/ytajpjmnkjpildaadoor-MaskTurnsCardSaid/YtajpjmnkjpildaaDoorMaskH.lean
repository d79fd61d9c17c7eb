/-
  Contracts: Of, Without; the document's answer: Next, Around, List, Turn, Same.
-/
import Derived.Test.YtajpjmnkjpildaaDoorMaskG
import Derived.StillTailTactics
namespace Go.Proofs.YtajpjmnkjpildaaDoor
open Go.RowKit

theorem of_any (a : Option Addr) (cap : Nat) (zs : List Int) (w : World) (hl : zs.length ≤ 9223372036854775807) (hz : IntsAt w a zs) :
    Calls Tryd.prog 20 #[.slice a zs.length cap] w fun e w' => e = .returned (.int .u64 ((withN 0 zs : Nat) : Int)) ∧ w = w' := by
  have H := Lib.hid (with_any 0 (by decide) a cap zs w hl hz)
  clear hl hz
  go_enter Tryd.func20, Tryd.ntmps20
  go_wp2_with (go_at_call 9; refine H.out.mono ?_; rintro e w' ⟨rfl, rfl⟩)
  go_ret
  exact ⟨rfl, rfl⟩

/-- A mask without these numbers. -/
def withoutN (m : Nat) (zs : List Int) : Nat := m &&& (18446744073709551615 - withN 0 zs)
theorem withoutN_lt (m : Nat) (zs : List Int) (hm : m < 18446744073709551616) : withoutN m zs < 18446744073709551616 :=
  Nat.lt_of_le_of_lt Nat.and_le_left hm

theorem without_any (m : Nat) (hm : m < 18446744073709551616) (a : Option Addr) (cap : Nat) (zs : List Int) (w : World) (hl : zs.length ≤ 9223372036854775807) (hz : IntsAt w a zs) :
    Calls Tryd.prog 10 #[.int .u64 (m : Int), .slice a zs.length cap] w fun e w' => e = .returned (.int .u64 ((withoutN m zs : Nat) : Int)) ∧ w = w' := by
  have H := Lib.hid (of_any a cap zs w hl hz)
  have HV := Lib.hid (u64_andNot_nat m _ hm (withN_lt 0 zs (by decide)))
  clear hl hz hm
  go_enter Tryd.func10, Tryd.ntmps10
  go_wp2_with (go_at_call 20; refine H.out.mono ?_; rintro e w' ⟨rfl, rfl⟩)
  go_ret
  exact ⟨by show Ending.returned (Value.int .u64 (bits BinOp.andNot IntKind.u64 (m : Int) ((withN 0 zs : Nat) : Int))) = _; rw [HV.out]; rfl, rfl⟩

/-- The document's next one. -/
def refO (bs : List Bool) (from' : Int) : Option Nat := (List.range 64).find? fun i : Nat => decide (from' ≤ (i : Int)) && bs[i]?.getD false
def refV (bs : List Bool) (from' : Int) : Nat := (refO bs from').getD 0
def refB (bs : List Bool) (from' : Int) : Bool := (refO bs from').isSome

theorem refO_none (bs : List Bool) (from' : Int) (h : ∀ j : Nat, j < 64 → (decide (from' ≤ (j : Int)) && bs[j]?.getD false) = false) : refO bs from' = none := by
  unfold refO
  rw [List.find?_eq_none]
  intro x hx
  rw [h x (by simpa using hx)]
  simp
theorem refO_some (bs : List Bool) (from' : Int) (k : Nat) (hk : k < 64) (h : ∀ j : Nat, j < k → (decide (from' ≤ (j : Int)) && bs[j]?.getD false) = false) (hh : (decide (from' ≤ (k : Int)) && bs[k]?.getD false) = true) : refO bs from' = some k := by
  unfold refO
  have e : List.range 64 = List.range k ++ (k :: (List.range (63 - k)).map (k + 1 + ·)) := by
    have e1 : (64 : Nat) = k + ((63 - k) + 1) := by omega
    conv => lhs; rw [e1, List.range_add, List.range_succ_eq_map]
    simp [List.map_map, Function.comp_def]
    intro a _
    omega
  rw [e, List.find?_append]
  have e2 : (List.range k).find? (fun i : Nat => decide (from' ≤ (i : Int)) && bs[i]?.getD false) = none := by
    rw [List.find?_eq_none]; intro x hx; rw [h x (by simpa using hx)]; simp
  rw [e2]
  simp only [List.find?_cons, hh]
  rfl

set_option maxHeartbeats 400000 in
theorem rnext_any (g cap : Nat) (bs : List Bool) (from' : Int) (w : World) (hb : BA w g cap bs) :
    Calls Tryd.prog 23 #[.slice (some ⟨g, 0, none⟩) 64 cap, .int .i64 from'] w fun e w' => e = .returned (.tuple #[.int .i64 ((refV bs from' : Nat) : Int), .bool (refB bs from')]) ∧ w = w' := by
  have HB := Lib.hid hb
  clear hb
  go_enter Tryd.func23, Tryd.ntmps23
  go_wp2
  go_loop [6] (fun i => ∃ k : Nat, k ≤ 64 ∧ i = .int .i64 (k : Int) ∧ ∀ j : Nat, j < k → (decide (from' ≤ (j : Int)) && bs[j]?.getD false) = false) (fun i => 64 - (intOf i).toNat)
  case atStart => exact ⟨0, by omega, rfl, fun j hj => by omega⟩
  case round =>
    obtain ⟨k, hk, rfl, hall⟩ := hrel
    have HA := Lib.hid hall
    clear hall
    by_cases hlt : k < 64
    · have hc := HB.out.cell k hlt
      by_cases hf : from' ≤ (k : Int)
      · cases hv : bs[k]?.getD false
        · rw [hv] at hc
          have HV := Lib.hid hv
          clear hv
          go_wp2
          go_round
          case rel =>
            refine ⟨k + 1, by omega, by go_num, fun j hj => ?_⟩
            by_cases e : j = k
            · subst e; rw [HV.out]; simp
            · exact HA.out j (by omega)
          case measure => simp [intOf]; omega
        · rw [hv] at hc
          have HV := Lib.hid hv
          clear hv
          go_wp2
          go_ret2
          have e := refO_some bs from' k hlt HA.out (by rw [HV.out]; simpa using hf)
          exact ⟨by rw [refV, refB, e]; rfl, rfl⟩
      · have hf2 : (k : Int) < from' := by omega
        have HF := Lib.hid hf
        clear hf hc
        go_wp2
        go_round
        case rel =>
          refine ⟨k + 1, by omega, by go_num, fun j hj => ?_⟩
          by_cases e : j = k
          · subst e; have := HF.out; simp [this]
          · exact HA.out j (by omega)
        case measure => simp [intOf]; omega
    · go_wp2
      go_ret2
      have e := refO_none bs from' (fun j hj => HA.out j (by omega))
      exact ⟨by rw [refV, refB, e]; rfl, rfl⟩

def rarV (bs : List Bool) (from' : Int) : Nat := if refB bs from' = true then refV bs from' else refV bs 0
def rarB (bs : List Bool) (from' : Int) : Bool := if refB bs from' = true then true else refB bs 0

theorem raround_any (g cap : Nat) (bs : List Bool) (from' : Int) (w : World) (hb : BA w g cap bs) :
    Calls Tryd.prog 25 #[.slice (some ⟨g, 0, none⟩) 64 cap, .int .i64 from'] w fun e w' => e = .returned (.tuple #[.int .i64 ((rarV bs from' : Nat) : Int), .bool (rarB bs from')]) ∧ w = w' := by
  have HB := Lib.hid hb
  clear hb
  unfold rarV rarB
  cases hb : refB bs from'
  · have HN := Lib.hid (rnext_any g cap bs from' w HB.out)
    rw [hb] at HN
    clear hb
    go_enter Tryd.func25, Tryd.ntmps25
    go_wp2_with fail
    refine HN.out.mono ?_
    rintro e w1 ⟨rfl, rfl⟩
    go_wp2_with fail
    refine (rnext_any g cap bs 0 w HB.out).mono ?_
    rintro e w2 ⟨rfl, rfl⟩
    go_wp2
    go_ret2
    exact ⟨rfl, rfl⟩
  · have HN := Lib.hid (rnext_any g cap bs from' w HB.out)
    rw [hb] at HN
    clear hb
    go_enter Tryd.func25, Tryd.ntmps25
    go_wp2_with fail
    refine HN.out.mono ?_
    rintro e w1 ⟨rfl, rfl⟩
    go_wp2
    go_ret2
    exact ⟨rfl, rfl⟩

/-- The document's list. -/
def rlistTo (bs : List Bool) (k : Nat) : List Nat := (List.range k).filter fun i => bs[i]?.getD false
theorem rlistTo_yes (bs : List Bool) (k : Nat) (h : bs[k]?.getD false = true) : rlistTo bs (k + 1) = rlistTo bs k ++ [k] := by
  unfold rlistTo; rw [List.range_succ, List.filter_append]; simp [h]
theorem rlistTo_no (bs : List Bool) (k : Nat) (h : bs[k]?.getD false = false) : rlistTo bs (k + 1) = rlistTo bs k := by
  unfold rlistTo; rw [List.range_succ, List.filter_append]; simp [h]
theorem rlistTo_le (bs : List Bool) (k : Nat) : (rlistTo bs k).length ≤ k := by
  have := List.length_filter_le (fun i => bs[i]?.getD false) (List.range k)
  simpa [rlistTo] using this

set_option maxHeartbeats 1000000 in
theorem rlist_any (g cap : Nat) (bs : List Bool) (w : World) (hb : BA w g cap bs) :
    Calls Tryd.prog 17 #[.slice (some ⟨g, 0, none⟩) 64 cap] w fun e W' =>
      ∃ v, e = .returned v ∧ W'.ownsRow w.heap.size 3 1 v (rlistTo bs 64).length (ivs (rlistTo bs 64)) ∧ Below w.heap.size w W' := by
  obtain ⟨i0, hi, hz0, hz1, hz2⟩ := info_parts infoInt
  have HB := Lib.hid hb
  have hlt := hb.lt
  clear hb
  obtain ⟨G, hG⟩ : ∃ G, G = w.heap.size := ⟨_, rfl⟩
  rw [← hG] at hlt ⊢
  have HG := Lib.hid hG
  have hB0 : Hid (Below G w w) := Lib.hid (Below.refl _ _)
  clear hG
  go_enter Tryd.func17, Tryd.ntmps17
  go_wp2
  go_loopw [3, 4] (fun v i wr => ∃ k : Nat, k ≤ 64 ∧ i = .int .i64 (k : Int) ∧ wr.ownsRow G 3 1 v (rlistTo bs k).length (ivs (rlistTo bs k)) ∧ Below G w wr) (fun _ i _ => 64 - (intOf i).toNat)
  case atStart => exact ⟨0, by omega, rfl, World.ownsRow_nil _ _ _ _, hB0.out⟩
  case round =>
    rename_i v _
    obtain ⟨k, hk, rfl, hown, hB⟩ := hrel
    have HBW := Lib.hid hB
    have hGs : G ≤ wr.heap.size := by rw [HG.out]; exact hB.size
    clear hB
    have hbk := HB.out.below HBW.out hlt
    by_cases hlt2 : k < 64
    · have hc := hbk.cell k hlt2
      have hkl := rlistTo_le bs k
      clear hbk
      cases hv : bs[k]?.getD false
      · rw [hv] at hc
        have HV := Lib.hid hv
        clear hv hkl
        go_wp2
        go_roundw
        case rel => exact ⟨k + 1, by omega, by go_num, by rw [rlistTo_no bs k HV.out]; exact hown, HBW.out⟩
        case measure => simp [intOf]; omega
      · rw [hv] at hc
        have HV := Lib.hid hv
        clear hv
        go_wp2_with (at_builtin; go_must (refine wpList_append_own _ rfl _ _ 23 rfl G 3 i0 (.int .i64 0) 1 8 Tryd.underlying23 hi hz0 hz1 hz2 rfl (by decide) _ _ _ rfl (hown.alloc _) ⟨wr.heap.size, 0, none⟩ 1 1 [.int .i64 (k : Int)] rfl rfl (cell_one_new _ _ _) (by simp [Value.oneCell']) (by unfold maxLen; omega) (by omega) (by simp; omega) ?_); intro v' w1 hown' hgrow _)
        have hB1 : Below G w w1 := (HBW.out.alloc hGs _).grown hgrow (by simp; omega) (fun k' e => (hown.lt k' e).1)
        have HB1 := Lib.hid hB1
        have HO := Lib.hid hown'
        clear hB1 hown' hgrow hown
        go_wp2
        go_roundw
        case rel => exact ⟨k + 1, by omega, by go_num, by rw [rlistTo_yes bs k HV.out]; simpa [ivs] using HO.out, HB1.out⟩
        case measure => simp [intOf]; omega
    · go_wp2
      go_ret
      have hk64 : k = 64 := by omega
      subst hk64
      exact ⟨_, rfl, hown, HBW.out⟩

/-- The document's turning: what stands at j comes from (j + k) mod 64. -/
def rturnTo (bs : List Bool) (k n : Nat) : List Bool := (List.range 64).map fun j => decide ((j + k) % 64 < n) && bs[(j + k) % 64]?.getD false
theorem rturnTo_zero (bs : List Bool) (k : Nat) : rturnTo bs k 0 = List.replicate 64 false := by
  apply List.ext_getElem (by simp [rturnTo])
  intro i h1 h2
  rw [List.getElem_replicate]
  simp [rturnTo]
theorem rturnTo_succ (bs : List Bool) (k n j : Nat) (hk : k < 64) (hn : n < 64) (hj : j = (n + 64 - k) % 64) : rturnTo bs k (n + 1) = (rturnTo bs k n).set j (bs[n]?.getD false) := by
  apply List.ext_getElem (by simp [rturnTo])
  intro i h1 h2
  have hi : i < 64 := by simpa [rturnTo] using h1
  rw [List.getElem_set]
  by_cases e : j = i
  · subst e
    have e2 : (j + k) % 64 = n := by omega
    simp [rturnTo, e2]
  · have e2 : (i + k) % 64 ≠ n := by omega
    have e3 : ((i + k) % 64 < n + 1) ↔ ((i + k) % 64 < n) := by omega
    simp [rturnTo, e, e3]

set_option maxHeartbeats 1000000 in
theorem rturn_core (g cap : Nat) (bs : List Bool) (n : Int) (k : Nat) (hk : k < 64) (w : World) (hb : BA w g cap bs)
    (h : n.tmod 64 = (k : Int) ∨ ∃ t : Nat, 0 < t ∧ t < 64 ∧ n.tmod 64 = -(t : Int) ∧ -(t : Int) + 64 = (k : Int)) :
    Calls Tryd.prog 27 #[.slice (some ⟨g, 0, none⟩) 64 cap, .int .i64 n] w fun e w' => ∃ g', e = .returned (.slice (some ⟨g', 0, none⟩) 64 64) ∧ BA w' g' 64 (rturnTo bs k 64) ∧ w.heap.size ≤ g' ∧ Below w.heap.size w w' := by
  obtain ⟨i0, hi, hz0, hz1, hz2⟩ := info_parts infoBool
  have HB := Lib.hid hb
  have hlt := hb.lt
  clear hb
  rcases h with ht | ⟨t, ht0, ht1, ht, hkt⟩
  all_goals
    go_enter Tryd.func27, Tryd.ntmps27
    go_wp2_with (at_make; refine wpList_make_full _ rfl _ _ 26 rfl w.heap.size 4 i0 (.bool false) 1 Tryd.underlying26 hi hz0 hz1 _ _ _ _ 64 rfl rfl rfl rfl (by rw [hz2]; decide) (by unfold maxLen; decide) (Nat.le_refl _) ?_; intro w1 hown hgrow)
    have hBA0 : BA w1 w.heap.size 64 (rturnTo bs k 0) := by rw [rturnTo_zero]; unfold BA; rw [← made_bools]; exact own_base hown
    have hB0 : Below w.heap.size w w1 := (Below.refl _ _).grown hgrow (Nat.le_refl _) (fun k e => by cases e)
    have HBA0 := Lib.hid hBA0
    have HB0 := Lib.hid hB0
    clear hown hgrow hBA0 hB0
    go_wp2
    go_loopw [7] (fun i wr => ∃ m : Nat, m ≤ 64 ∧ i = .int .i64 (m : Int) ∧ BA wr w.heap.size 64 (rturnTo bs k m) ∧ Below w.heap.size w wr) (fun i _ => 64 - (intOf i).toNat)
    case atStart => exact ⟨0, by omega, rfl, HBA0.out, HB0.out⟩
    case round =>
      obtain ⟨m, hm, rfl, hBA, hBW⟩ := hrel
      have HBA := Lib.hid hBA
      have HBW := Lib.hid hBW
      clear hBA hBW
      by_cases hlt2 : m < 64
      · have hc := (HB.out.below HBW.out hlt).cell m hlt2
        obtain ⟨j, hj⟩ : ∃ j : Nat, j = (m + 64 - k) % 64 := ⟨_, rfl⟩
        have hj64 : j < 64 := by omega
        have hjj : ((m : Int) + 64 - (k : Int)) % 64 = (j : Int) := by omega
        have hc2 := HBA.out.cell j hj64
        have hf2 := HBA.out.free j
        have HJ := Lib.hid hj
        clear hj
        generalize hbv : bs[m]?.getD false = bv at hc
        have HBV := Lib.hid hbv
        clear hbv
        go_wp2
        go_roundw
        case rel => exact ⟨m + 1, by omega, by go_num, by rw [rturnTo_succ bs k m j hk hlt2 HJ.out, HBV.out]; exact HBA.out.set j _, HBW.out.setCell (p := ⟨w.heap.size, j, none⟩) (Nat.le_refl _) _⟩
        case measure => simp [intOf]; omega
      · go_wp2
        go_ret
        have hm64 : m = 64 := by omega
        subst hm64
        exact ⟨w.heap.size, rfl, HBA.out, Nat.le_refl _, HBW.out⟩

/-- What stands at j comes from (j + n) mod 64. -/
def rturnL (bs : List Bool) (n : Int) : List Bool := rturnTo bs (n % 64).toNat 64

theorem rturn_any (g cap : Nat) (bs : List Bool) (n : Int) (w : World) (hb : BA w g cap bs) :
    Calls Tryd.prog 27 #[.slice (some ⟨g, 0, none⟩) 64 cap, .int .i64 n] w fun e w' => ∃ g', e = .returned (.slice (some ⟨g', 0, none⟩) 64 64) ∧ BA w' g' 64 (rturnL bs n) ∧ w.heap.size ≤ g' ∧ Below w.heap.size w w' := by
  refine rturn_core g cap bs n (n % 64).toNat (by omega) w hb ?_
  have ht : n.tmod 64 = n % 64 - ((if 0 ≤ n ∨ (64 : Int) ∣ n then 0 else (64 : Int).natAbs : Nat) : Int) := Int.tmod_eq_emod
  by_cases h : 0 ≤ n ∨ (64 : Int) ∣ n
  · rw [if_pos h] at ht
    exact .inl (by omega)
  · rw [if_neg h] at ht
    exact .inr ⟨(64 - n % 64).toNat, by omega, by omega, by omega, by omega⟩

set_option maxHeartbeats 1000000 in
theorem same_eq (a1 a2 : Option Addr) (cap1 cap2 : Nat) (zs : List Int) (w : World) (hl : zs.length ≤ 9223372036854775807) (h1 : IntsAt w a1 zs) (h2 : IntsAt w a2 zs) :
    Calls Tryd.prog 18 #[.slice a1 zs.length cap1, .slice a2 zs.length cap2] w fun e w' => e = .returned (.bool true) ∧ ∃ m, w' = w.drewN m := by
  obtain ⟨n, hn⟩ : ∃ n, n = zs.length := ⟨_, rfl⟩
  rw [← hn] at hl ⊢
  have HN := Lib.hid hn
  have H1 := Lib.hid h1
  have H2 := Lib.hid h2
  clear hn h1 h2
  go_enter Tryd.func18, Tryd.ntmps18
  go_wp2
  go_loopw [5] (fun i wr => ∃ k m : Nat, k ≤ n ∧ i = .int .i64 (k : Int) ∧ wr = w.drewN m) (fun i _ => n - (intOf i).toNat)
  case atStart => exact ⟨0, 0, by omega, rfl, rfl⟩
  case round =>
    obtain ⟨k, m, hk, rfl, rfl⟩ := hrel
    by_cases hlt : k < n
    · rcases H1.out with h0 | ⟨b, off, rfl, hc⟩
      · exfalso; rw [HN.out, h0] at hlt; simp at hlt
      · rcases H2.out with h0 | ⟨b2, off2, rfl, hc2⟩
        · exfalso; rw [HN.out, h0] at hlt; simp at hlt
        · have hc := hc k (by rw [← HN.out]; exact hlt)
          have hc2 := hc2 k (by rw [← HN.out]; exact hlt)
          generalize zs[k]?.getD 0 = z at hc hc2
          have hzz : (z != z) = false := by simp
          go_wp2
          go_quiet (fail)
          go_wp2
          go_roundw
          case rel => exact ⟨k + 1, _, by omega, by go_num, rfl⟩
          case measure => simp [intOf]; omega
    · go_wp2
      go_ret
      exact ⟨rfl, m, rfl⟩
end Go.Proofs.YtajpjmnkjpildaaDoor
