/-
  The law IsaParses, walked.
-/
import Derived.Test.YtgldkalagmjkfaaDoorIsU
import Derived.Test.YtgldkalagmjkfaaDoorIsP
import Derived.BigQuiet
namespace Go.Proofs.YtgldkalagmjkfaaDoor
open Go.RowKit Go.BigFrame

attribute [local go_sem] Oper.semAt_some

set_option maxHeartbeats 2000000 in
/-- The bytes are cut to 400 ahead of it. -/
theorem parses_law {a : Option Addr} {len cap : Nat} {l0 : List Int} {w : World} (hlc : len ≤ cap) (hcap : cap ≤ 9223372036854775807) (hnil : a = none → cap = 0) (hlen : l0.length = len) (hl0 : byte l0) (hb0 : BytesAt w a l0) (hT : Tb w) :
    Calls Tryd.prog 6 #[.slice a len cap] w fun e w' => e = .returned (.bool true) ∧ Below w.heap.size w w' := by
  obtain ⟨n, hmin⟩ : ∃ n : Nat, min (len : Int) 400 = (n : Int) := ⟨min len 400, by omega⟩
  have hn1 : n ≤ len ∧ n ≤ 400 := by omega
  have hn2 : n ≤ 400 := hn1.2
  have hnl : n ≤ len := hn1.1
  obtain ⟨l, hl⟩ : ∃ l, l0.take n = l := ⟨_, rfl⟩
  have hll : l.length = n := by rw [← hl, List.length_take]; omega
  have hby : byte l := fun x hx => hl0 x (by rw [← hl] at hx; exact List.mem_of_mem_take hx)
  have hb : BytesAt w a l := by rw [← hl]; exact hb0.take n
  obtain ⟨m, hm, hok, hend⟩ := parse_ends l n
  have HP := Lib.hid (fun (W : World) (hc : Ch [] w W) => parse_any (cap := cap) hll (by omega) (by omega) hcap hby (hb.ch hc (by simp)) hm hok hend)
  have HRp := Lib.hid (fun (W : World) (hc : Ch [] w W) => rparse_any (cap := cap) hll (by omega) (by omega) hcap hby (hb.ch hc (by simp)) hm hok hend)
  have HT := Lib.hid hT
  have hnc : n ≤ cap := by omega
  by_cases hz : n = 8 * m
  · have HF := Lib.hid (decs_first hok)
    have HEn := Lib.hid (encs_all hby (m := m) (by rw [hll]; exact hz))
    have HFit := Lib.hid (decs_fit hby m)
    have HB := Lib.hid hb
    have HLl := Lib.hid hll
    have HZ := Lib.hid hz
    have hm1 : m ≤ 50 := by omega
    have HM := Lib.hid hm1
    clear hT hb0 hl0 hlen hl hby hb hm hok hend hll hz hn1 hm1
    have hnil2 : a = none → cap = 0 ∧ n = 0 ∧ len = 0 := fun h => ⟨hnil h, by have := hnil h; omega, by have := hnil h; omega⟩
    have HNil := Lib.hid hnil2
    clear hnil hnil2
    have key : ∀ (a : Option Addr) (_ : a = none ∨ ∃ x, a = some x), True := fun _ _ => trivial
    clear key
    go_enter Tryd.func6, Tryd.ntmps6
    go_wp2_with fail
    with_reducible refine (HRp.out _ (Ch.refl [] _)).mono ?_
    rintro e w1 ⟨hc1, he⟩
    obtain ⟨rv, rfl, hr⟩ : ∃ v, e = .returned (.tuple #[v, .int .i64 0, .int .i64 0]) ∧ IR w1 w.heap.size 29 v (decs l m) := by
      rcases he with ⟨h, -⟩ | ⟨-, h, -⟩ | ⟨-, h⟩
      · have := HZ.out; omega
      · exact absurd HZ.out h
      · exact h
    obtain ⟨ra, rc, rfl, hir, hrb⟩ := hr.form
    rw [decs_len] at *
    have HC1 := Lib.hid hc1
    have HI1 := Lib.hid hir
    clear he hr hrb hir hc1
    go_wp2_with fail
    with_reducible refine (HP.out _ HC1.out).mono ?_
    rintro e w2 ⟨hc2, he⟩
    obtain ⟨pv, rfl, hr⟩ : ∃ v, e = .returned (.tuple #[v, .int .i64 0, .int .i64 0]) ∧ IR w2 w1.heap.size 34 v (decs l m) := by
      rcases he with ⟨h, -⟩ | ⟨-, h, -⟩ | ⟨-, h⟩
      · have := HZ.out; omega
      · exact absurd HZ.out h
      · exact h
    obtain ⟨pa, pc, rfl, hip, hpb⟩ := hr.form
    rw [decs_len] at *
    have HC2 := Lib.hid (HC1.out.trans hc2)
    have HI2 := Lib.hid (HI1.out.ch hc2 (by simp))
    have HJ2 := Lib.hid hip
    clear he hr hpb hip hc2 HI1 HC1
    go_wp2_with fail
    go_loopw [9] (fun i wr => ∃ k : Nat, i = .int .i64 (k : Int) ∧ k ≤ m ∧ Ch [] w2 wr) (fun i _ => m - (RowKit.intOf i).toNat)
    case atStart => exact ⟨0, rfl, Nat.zero_le _, Ch.refl _ _⟩
    case round =>
      obtain ⟨k, rfl, hk, hch⟩ := hrel
      have HC := Lib.hid hch
      have HM2 := Lib.hid (show m ≤ 50 from HM.out)
      by_cases hlt : k < m
      · have hkl : k < (decs l m).length := by rw [decs_len]; exact hlt
        rcases HI2.out.ch hch (by simp) with h0 | ⟨b1, o1, rfl, hk1⟩
        · rw [h0] at hkl; simp at hkl
        · rcases HJ2.out.ch hch (by simp) with h0 | ⟨b2, o2, rfl, hk2⟩
          · rw [h0] at hkl; simp at hkl
          · have hf1 := hk1 k hkl
            have hf2 := hk2 k hkl
            generalize (decs l m)[k] = x at hf1 hf2
            have HOf := Lib.hid (fun w => of_any x w)
            have HNe := Lib.hid (fun w => rins_neq x x w)
            obtain ⟨op, d, s, o, i⟩ := x
            unfold iv at HOf HNe
            simp only [decide_true, Bool.not_true] at HOf HNe
            obtain ⟨c0, c1, c2, c3, c4⟩ := hf1
            obtain ⟨d0, d1, d2, d3, d4⟩ := hf2
            simp only at c0 c1 c2 c3 c4 d0 d1 d2 d3 d4
            clear hk1 hk2 hkl hch
            obtain ⟨G, f', hf1, hf2⟩ := worlds_of wr
            have HX1 := Lib.hid hf1
            have HX2 := Lib.hid hf2
            have c0' : ∀ g : G, (f' g).cell? ⟨b1, o1 + k * 5, none⟩ = some (.int .i64 op) := fun g => ((HX1.out g).cell (cell_lt c0) (by simp)).trans c0
            have c1' : ∀ g : G, (f' g).cell? ⟨b1, o1 + k * 5 + 1, none⟩ = some (.int .i64 d) := fun g => ((HX1.out g).cell (cell_lt c1) (by simp)).trans c1
            have c2' : ∀ g : G, (f' g).cell? ⟨b1, o1 + k * 5 + 2, none⟩ = some (.int .i64 s) := fun g => ((HX1.out g).cell (cell_lt c2) (by simp)).trans c2
            have c3' : ∀ g : G, (f' g).cell? ⟨b1, o1 + k * 5 + 3, none⟩ = some (.int .i64 o) := fun g => ((HX1.out g).cell (cell_lt c3) (by simp)).trans c3
            have c4' : ∀ g : G, (f' g).cell? ⟨b1, o1 + k * 5 + 4, none⟩ = some (.int .i64 i) := fun g => ((HX1.out g).cell (cell_lt c4) (by simp)).trans c4
            have d0' : ∀ g : G, (f' g).cell? ⟨b2, o2 + k * 5, none⟩ = some (.int .i64 op) := fun g => ((HX1.out g).cell (cell_lt d0) (by simp)).trans d0
            have d1' : ∀ g : G, (f' g).cell? ⟨b2, o2 + k * 5 + 1, none⟩ = some (.int .i64 d) := fun g => ((HX1.out g).cell (cell_lt d1) (by simp)).trans d1
            have d2' : ∀ g : G, (f' g).cell? ⟨b2, o2 + k * 5 + 2, none⟩ = some (.int .i64 s) := fun g => ((HX1.out g).cell (cell_lt d2) (by simp)).trans d2
            have d3' : ∀ g : G, (f' g).cell? ⟨b2, o2 + k * 5 + 3, none⟩ = some (.int .i64 o) := fun g => ((HX1.out g).cell (cell_lt d3) (by simp)).trans d3
            have d4' : ∀ g : G, (f' g).cell? ⟨b2, o2 + k * 5 + 4, none⟩ = some (.int .i64 i) := fun g => ((HX1.out g).cell (cell_lt d4) (by simp)).trans d4
            have hne : Nonempty G := ⟨(hf2 wr (Ch.refl _ _)).choose⟩
            have HQ := Ch.refl [] wr
            have hn := HNe.out
            have hkm1 : (k : Int) < (m : Int) := by omega
            have hwk : IntKind.i64.wrap ((k : Int) + 1) = (k : Int) + 1 := by have := HM2.out; rw [IntKind.wrap_i64]; omega
            clear hf1 hf2 c0 c1 c2 c3 c4 d0 d1 d2 d3 d4
            go_wp2_with fail
            refine wp_region_worlds f' (by kernel_rfl) (by kernel_rfl) (HX2.out _ HQ.drew) ?_
            repeat (go_big_quiet_step (first
              | (with_reducible refine (HOf.out _).mono ?_; rintro r w' ⟨rfl, hcw⟩; exact ⟨rfl, HX2.out w' ((HX1.out _).trans hcw)⟩)
              | fail))
            refine wpQuiet_nil ?_
            rintro _ ⟨gz, rfl⟩
            have HZ3 := Lib.hid (HC.out.trans (HX1.out gz))
            generalize f' gz = wz at *
            clear c0' c1' c2' c3' c4' d0' d1' d2' d3' d4' hne HQ hn
            go_wp2_with fail
            go_roundw
            case rel => exact ⟨k + 1, by go_num, by omega, HZ3.out⟩
            case measure => simp [RowKit.intOf]; omega
      · obtain rfl : k = m := by omega
        have HBy := Lib.hid (bytes_any (cap := pc) (decs_len l k) (by have := HM.out; omega) (HJ2.out.ch hch (by simp)) HFit.out)
        have HCa := Lib.hid (HC2.out.trans hch)
        clear hlt hk hch HC HM2
        go_wp2_with fail
        with_reducible refine HBy.out.mono ?_
        rintro e w3 ⟨he, hc3⟩
        rcases he with ⟨hne, -⟩ | ⟨-, v, rfl, hnb⟩
        · exact absurd HF.out hne
        obtain ⟨va, vc, rfl, hbv, -⟩ := hnb.form
        rw [HEn.out] at hbv
        rw [HEn.out, HLl.out]
        have HC4 := Lib.hid (HCa.out.trans hc3)
        have HV4 := Lib.hid hbv
        clear hnb hbv hc3
        go_wp2_with fail
        with_reducible refine (known_any (HT.out.ch HC4.out)).mono ?_
        rintro e w4 ⟨rfl, hc4⟩
        have HC5 := Lib.hid (HC4.out.trans hc4)
        have HS := Lib.hid (same_any cap vc (n := n) HLl.out (by omega) (HB.out.ch HC5.out (by simp)) (HV4.out.ch hc4 (by simp)))
        clear hc4
        go_wp2_with fail
        with_reducible refine HS.out.mono ?_
        rintro e w5 ⟨rfl, hc5⟩
        have HC6 := Lib.hid (HC5.out.trans hc5)
        clear hc5
        go_wp2
        go_ret
        exact ⟨rfl, HC6.out.below _ (by simp) (Nat.le_refl _)⟩
  · have HFc := Lib.hid (failC_ne hend)
    have HRp2 := Lib.hid (fun (W : World) (hc : Ch [] w W) => (HRp.out W hc).mono (R' := fun e w' => Ch [] W w' ∧ e = .returned (.tuple #[.slice none 0 0, .int .i64 (m : Int), .int .i64 (failC l n m)])) (by
      rintro e w' ⟨hc', he⟩
      refine ⟨hc', ?_⟩
      unfold failC
      rcases he with ⟨h, rfl⟩ | ⟨h, -, rfl⟩ | ⟨h, -⟩
      · rw [if_pos h]
      · rw [if_neg (by omega)]
      · exact absurd h hz))
    have HP2 := Lib.hid (fun (W : World) (hc : Ch [] w W) => (HP.out W hc).mono (R' := fun e w' => Ch [] W w' ∧ e = .returned (.tuple #[.slice none 0 0, .int .i64 (m : Int), .int .i64 (failC l n m)])) (by
      rintro e w' ⟨hc', he⟩
      refine ⟨hc', ?_⟩
      unfold failC
      rcases he with ⟨h, rfl⟩ | ⟨h, -, rfl⟩ | ⟨h, -⟩
      · rw [if_pos h]
      · rw [if_neg (by omega)]
      · exact absurd h hz))
    have hcb : (failC l n m != 0) = true := by simpa using HFc.out
    generalize failC l n m = c at *
    clear hT hb0 hl0 hlen hl hby hb hm hok hend hll hz hn1 HP HRp HFc
    go_enter Tryd.func6, Tryd.ntmps6
    go_wp2_with fail
    with_reducible refine (HRp2.out _ (Ch.refl [] _)).mono ?_
    rintro e w1 ⟨hc1, rfl⟩
    have HC1 := Lib.hid hc1
    clear hc1
    go_wp2_with fail
    with_reducible refine (HP2.out _ HC1.out).mono ?_
    rintro e w2 ⟨hc2, rfl⟩
    have HC2 := Lib.hid (HC1.out.trans hc2)
    clear hc2
    go_wp2_with fail
    go_loopw [9] (fun i wr => i = .int .i64 0 ∧ Ch [] w wr) (fun i _ => 0)
    case atStart => exact ⟨rfl, HC2.out⟩
    case round =>
      obtain ⟨rfl, hch⟩ := hrel
      have HC := Lib.hid hch
      clear hch
      go_wp2_with fail
      with_reducible refine (known_any (HT.out.ch HC.out)).mono ?_
      rintro e w4 ⟨rfl, hc4⟩
      have HC5 := Lib.hid (HC.out.trans hc4)
      clear hc4
      go_wp2
      go_ret
      exact ⟨rfl, HC5.out.below _ (by simp) (Nat.le_refl _)⟩
theorem parses_card {a : Option Addr} {len cap : Nat} {w : World} (hT : Tb w) (h : len ≤ cap ∧ cap ≤ 9223372036854775807 ∧ (a = none → cap = 0)) (hz : ∃ l : List Int, l.length = len ∧ byte l ∧ BytesAt w a l) :
    Calls Tryd.prog 6 #[.slice a len cap] w fun e w' => e = .returned (.bool true) ∧ Below w.heap.size w w' := by
  obtain ⟨l, h1, h2, h3⟩ := hz
  exact parses_law h.1 h.2.1 h.2.2 h1 h2 h3 hT
end Go.Proofs.YtgldkalagmjkfaaDoor
