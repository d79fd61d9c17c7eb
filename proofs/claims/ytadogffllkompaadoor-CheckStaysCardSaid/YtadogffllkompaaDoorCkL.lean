/-
  The document's Reached.
-/
import Derived.Deep.CutBlock
import Derived.Test.YtadogffllkompaaDoorCkK
namespace Go.Proofs.YtadogffllkompaaDoor
open Go.RowKit

attribute [local go_sem] Oper.semAt_some

theorem rd_start (L : List I5) (N : Nat) (hN : N ≤ L.length) : Rd L N (if 0 < N then (List.replicate 64 false).set 0 true else List.replicate 64 false) 0 0 0 := by
  have e0 : ∀ t, (List.replicate 64 false).getD t false = false := fun t => by
    rw [List.getD_eq_getElem?_getD, List.getElem?_replicate]; split <;> rfl
  by_cases h : 0 < N
  · rw [if_pos h]
    refine ⟨by simp, fun t ht => ?_, fun _ => by rw [getD_set_bool _ _ _ (by simp)]; simp, .inr (.inr ⟨?_, fun a t _ _ hlt => by omega⟩)⟩
    · rw [getD_set_bool _ _ _ (by simp), e0] at ht
      simp only [Bool.or_false, decide_eq_true_eq] at ht
      subst ht
      exact .zero (by omega)
    · rw [cnt_set (by simp) (by simp)]; omega
  · rw [if_neg h]
    refine ⟨by simp, fun t ht => (by rw [e0] at ht; cases ht), fun h2 => absurd h2 h, .inl (fun a t ha => by omega)⟩

theorem BA.chs {w w' : World} {S : List Nat} {g cp : Nat} {bs : List Bool} (h : Mk.BA w g cp bs) (hc : Ch S w w') (hS : g ∉ S) : Mk.BA w' g cp bs := by
  obtain ⟨h1, h2⟩ := h
  refine ⟨h1, ?_⟩
  rcases h2 with h2 | ⟨g', cap, cur, hv, hb, hg, r⟩
  · exact .inl h2
  · refine .inr ⟨g', cap, cur, hv, hb, ?_, r⟩
    obtain rfl : g = g' := by cases hv; rfl
    exact (hc.block g (Array.getElem?_eq_some_iff.1 hg).1 hS).trans hg

set_option maxRecDepth 10000 in
set_option maxHeartbeats 8000000 in
theorem rreach_piece {w : World} {a : Option Addr} {n cap N : Nat} {z : Int} {L : List I5} (hL : L.length = n) (hN : N = min n 64) (hn : n ≤ 1000) (hz : z = (N : Int)) (hI : InsAt w a L) {u8 u9 u10 u11 : Value} :
    Code.wp Tryd.prog (codeOf [1, 1, 1] (Tryd.f17.body.getD .skip)) (bodyPost Tryd.prog Tryd.f17 fun e w' => ∃ g cp bs, e = .returned (.slice (some ⟨g, 0, none⟩) 64 cp) ∧ Mk.BA w' g cp bs ∧ w.heap.size ≤ g ∧ (∀ t, bs.getD t false = true ↔ Rch L t) ∧ Ch [] w w')
      { tmps := #[.slice a n cap, undef, .slice none 0 0, .int .i64 z, undef, undef, undef, undef, u8, u9, u10, u11, undef, undef, undef, undef, undef, undef, undef, undef, undef, undef, undef, undef, undef, undef, undef, undef, undef, undef, undef, undef, undef, undef, undef, undef, undef, undef, undef, undef, undef, undef, undef, undef, undef, undef, undef, undef, undef], defers := [] } w := by
  obtain ⟨i0, hi, hz0, hz1, hz2⟩ := info_parts Mk.infoBool
  have HL := Lib.hid hL
  have HN := Lib.hid hN
  have HZ := Lib.hid hz
  have HI := Lib.hid hI
  have HS := Lib.hid (rd_start L N (by omega))
  clear hL hN hz hI
  simp only [codeOf, Tryd.f17, Option.getD_some]
  refine wp_seq_k (fun K0 hK0 => ?_)
  have HK0 := Lib.hid hK0
  clear hK0
  go_wp2_with (at_make; refine wpList_make_full _ rfl _ _ 33 rfl w.heap.size 4 i0 (.bool false) 1 Tryd.underlying33 hi hz0 hz1 _ _ _ _ 64 rfl rfl rfl rfl (by rw [hz2]; decide) (by unfold maxLen; decide) (Nat.le_refl _) ?_; intro w1 hown hgrow)
  have hBA0 : Mk.BA w1 w.heap.size 64 (List.replicate 64 false) := by unfold Mk.BA; rw [← Mk.made_bools]; exact Mk.own_base hown
  have hC0 : Ch [] w w1 := Ch.of_below ((Below.refl _ _).grown hgrow (Nat.le_refl _) (fun k e => by cases e))
  obtain ⟨G, hG⟩ : ∃ G, G = w.heap.size := ⟨_, rfl⟩
  rw [← hG] at hBA0 ⊢
  have HG := Lib.hid hG
  clear hown hgrow hG hi hz0 hz1 hz2
  refine HK0.out _ _ ?_
  clear HK0
  refine wp_seq_k (fun K0 hK0 => ?_)
  have HK0 := Lib.hid hK0
  clear hK0
  have key : ∀ (u12 u13 u14 u15 u16 : Value) (w2 : World) (bs : List Bool), Mk.BA w2 G 64 bs → Rd L N bs 0 0 0 → Ch [] w w2 → K0 { tmps := #[.slice a n cap, undef, .slice none 0 0, .int .i64 z, .slice (some ⟨G, 0, none⟩) 64 64, undef, undef, undef, u8, u9, u10, u11, u12, u13, u14, u15, u16, undef, undef, undef, undef, undef, undef, undef, undef, undef, undef, undef, undef, undef, undef, undef, undef, undef, undef, undef, undef, undef, undef, undef, undef, undef, undef, undef, undef, undef, undef, undef, undef], defers := [] } w2 := by
    intro u12 u13 u14 u15 u16 w2 bs hb hr hc
    refine HK0.out _ _ ?_
    clear HK0
    have HB := Lib.hid hb
    have HR := Lib.hid hr
    have HC := Lib.hid hc
    clear hb hr hc
    go_wp2_with fail
    go_loopw [5] (fun i wr => ∃ (r : Nat) (bs : List Bool), i = .int .i64 (r : Int) ∧ r ≤ N ∧ Mk.BA wr G 64 bs ∧ Rd L N bs r 0 0 ∧ Ch [] w wr) (fun i _ => N - (intOf i).toNat)
    case atStart => exact ⟨0, bs, rfl, Nat.zero_le _, HB.out, HR.out, HC.out⟩
    case round =>
      obtain ⟨r, bs, rfl, hrN, hb, hr, hc⟩ := hrel
      have HB := Lib.hid hb
      have HR := Lib.hid hr
      have HC := Lib.hid hc
      clear hb hr hc
      by_cases h1 : r < N
      · have h1' : (r : Int) < z := by have := HZ.out; omega
        have hr64 : (r : Int) < 64 := by have := HN.out; omega
        clear h1
        go_wp2_with fail
        go_loopw [6] (fun i wr => ∃ (x : Nat) (bs : List Bool), i = .int .i64 (x : Int) ∧ x ≤ N ∧ Mk.BA wr G 64 bs ∧ Rd L N bs r x 0 ∧ Ch [] w wr) (fun i _ => N - (intOf i).toNat)
        case atStart => exact ⟨0, bs, rfl, Nat.zero_le _, HB.out, HR.out, HC.out⟩
        case round =>
          obtain ⟨x, bs, rfl, hxN, hb, hr, hc⟩ := hrel
          have HB := Lib.hid hb
          have HR := Lib.hid hr
          have HC := Lib.hid hc
          clear hb hr hc
          by_cases h2 : x < N
          · have h2' : (x : Int) < z := by have := HZ.out; omega
            have hx64 : (x : Int) < 64 := by have := HN.out; omega
            have H2 := Lib.hid h2
            clear h2
            go_wp2_with fail
            go_loopw [7] (fun i wr => ∃ (t : Nat) (bs : List Bool), i = .int .i64 (t : Int) ∧ t ≤ N ∧ Mk.BA wr G 64 bs ∧ Rd L N bs r x t ∧ Ch [] w wr) (fun i _ => N - (intOf i).toNat)
            case atStart => exact ⟨0, bs, rfl, Nat.zero_le _, HB.out, HR.out, HC.out⟩
            case round =>
              obtain ⟨t, bs, rfl, htN, hb, hr, hc⟩ := hrel
              have HB := Lib.hid hb
              have HR := Lib.hid hr
              have HC := Lib.hid hc
              by_cases h3 : t < N
              · have h3' : (t : Int) < z := by have := HZ.out; omega
                have hN64 : N ≤ 64 ∧ N ≤ L.length := by have := HN.out; have := HL.out; omega
                have hcell := hb.cell x (by have := H2.out; omega)
                have hxn : (x : Int) < (n : Int) := by have := H2.out; have := HL.out; omega
                have ht64 : (t : Int) < 64 := by omega
                rcases HI.out with h0 | ⟨b, off, rfl, hcl⟩
                · exfalso; have := HL.out; rw [h0] at this; simp at this; omega
                obtain ⟨c0, c1, c2, c3, c4⟩ := (InsAt.at hcl (k := x) (by have := H2.out; omega)).ch HC.out (by simp)
                have HBh := Lib.hid (fun W => rbhd_any (x := ia L x) x t (by have := H2.out; omega) (by omega) W)
                have HKp := Lib.hid (fun h => hr.keep h)
                have HPt := Lib.hid (fun h1 h2 => hr.put hN64.1 hN64.2 H2.out h3 h1 h2)
                have hgd : ∀ i, bs.getD i false = bs[i]?.getD false := fun i => List.getD_eq_getElem?_getD ..
                rw [hgd] at HKp HPt
                generalize bs[x]?.getD false = bx at *
                generalize bhd (ia L x) x t = by1 at *
                generalize ia L x = y at *
                obtain ⟨op, d, s, o, i⟩ := y
                unfold iv at HBh
                simp only at *
                clear hb hr hc h3 hcl hgd hN64 HI
                cases bx with
                | false =>
                  have HK2 := Lib.hid (HKp.out (fun h => by cases h))
                  go_wp2_with fail
                  go_roundw
                  case rel => exact ⟨t + 1, bs, by go_num, by have := HZ.out; omega, HB.out, HK2.out, HC.out⟩
                  case measure => have := HZ.out; simp [intOf]; omega
                | true =>
                  cases by1 with
                  | false =>
                    have HK2 := Lib.hid (HKp.out (fun _ h => by cases h))
                    go_wp2_with (first
                      | (with_reducible refine (HBh.out _).mono ?_; rintro e w9 ⟨rfl, hc9⟩; have HC9 := Lib.hid (HC.out.trans hc9); have HB9 := Lib.hid (BA.chs HB.out hc9 (by simp)); clear hc9)
                      | fail)
                    go_roundw
                    case rel => exact ⟨t + 1, bs, by go_num, by have := HZ.out; omega, HB9.out, HK2.out, HC9.out⟩
                    case measure => have := HZ.out; simp [intOf]; omega
                  | true =>
                    have HK2 := Lib.hid (HPt.out rfl rfl)
                    go_wp2_with fail
                    with_reducible refine (HBh.out _).mono ?_
                    rintro e w9 ⟨rfl, hc9⟩
                    have HC9 := Lib.hid (HC.out.trans hc9)
                    have hb9 := BA.chs HB.out hc9 (by simp)
                    have HB9 := Lib.hid (hb9.set t true)
                    have c9 := hb9.cell t (by omega)
                    have f9 := hb9.free t
                    clear hc9 hb9 c0 c1 c2 c3 c4 hcell
                    go_wp2_with fail
                    go_roundw
                    case rel => exact ⟨t + 1, bs.set t true, by go_num, by have := HZ.out; omega, HB9.out, HK2.out, chSetNew HC9.out (p := ⟨G, t, none⟩) (by rw [HG.out]; exact Nat.le_refl _) _⟩
                    case measure => have := HZ.out; simp [intOf]; omega
              · have h3' : ¬ (t : Int) < z := by have := HZ.out; omega
                obtain rfl : t = N := by omega
                have HR2 := Lib.hid HR.out.row
                clear h3 hb hr hc
                go_wp2_with fail
                go_roundw
                case rel => exact ⟨x + 1, bs, by go_num, by have := H2.out; omega, HB.out, HR2.out, HC.out⟩
                case measure => have := H2.out; simp [intOf]; omega
          · have h2' : ¬ (x : Int) < z := by have := HZ.out; omega
            obtain rfl : x = N := by omega
            have HR2 := Lib.hid HR.out.round
            have H1 := Lib.hid h1'
            clear h2
            go_wp2_with fail
            go_roundw
            case rel => exact ⟨r + 1, bs, by go_num, by have := H1.out; have := HZ.out; omega, HB.out, HR2.out, HC.out⟩
            case measure => have := H1.out; have := HZ.out; simp [intOf]; omega
      · have h1' : ¬ (r : Int) < z := by have := HZ.out; omega
        obtain rfl : r = N := by omega
        have HD := Lib.hid (fun t => HR.out.done (by rw [HL.out]; exact HN.out) t)
        clear h1
        go_wp2_with fail
        go_ret
        exact ⟨G, 64, rfl, bs, HB.out, by rw [HG.out]; exact Nat.le_refl _, HD.out, HC.out⟩
  clear HK0
  by_cases h0 : 0 < N
  · have hz1 : (0 : Int) < z := by have := HZ.out; omega
    have hS := HS.out
    rw [if_pos h0] at hS
    have HS2 := Lib.hid hS
    have HKey := Lib.hid key
    have c0 := hBA0.cell 0 (by decide)
    have f0 := hBA0.free 0
    have HB1 := Lib.hid (hBA0.set 0 true)
    have HC0 := Lib.hid hC0
    clear hS h0 key hBA0 hC0
    go_wp2_with fail
    exact HKey.out _ _ _ _ _ _ _ HB1.out HS2.out (chSetNew HC0.out (p := ⟨G, 0, none⟩) (by rw [HG.out]; exact Nat.le_refl _) _)
  · have hz1 : ¬ (0 : Int) < z := by have := HZ.out; omega
    have hS := HS.out
    rw [if_neg h0] at hS
    have HS2 := Lib.hid hS
    have HKey := Lib.hid key
    have HB1 := Lib.hid hBA0
    have HC0 := Lib.hid hC0
    clear hS h0 key hBA0 hC0
    go_wp2_with fail
    exact HKey.out _ _ _ _ _ _ _ HB1.out HS2.out HC0.out

set_option maxHeartbeats 4000000 in
theorem rreached_any {w : World} {a : Option Addr} {n cap : Nat} {L : List I5} (hL : L.length = n) (hn : n ≤ 1000) (hI : InsAt w a L) :
    Calls Tryd.prog 17 #[.slice a n cap] w fun e w' => ∃ g cp bs, e = .returned (.slice (some ⟨g, 0, none⟩) 64 cp) ∧ Mk.BA w' g cp bs ∧ w.heap.size ≤ g ∧ (∀ t, bs.getD t false = true ↔ Rch L t) ∧ Ch [] w w' := by
  by_cases h : 64 < n
  · have HP := Lib.hid (fun (u8 u9 u10 u11 : Value) => rreach_piece (cap := cap) (N := 64) (z := 64) hL (by omega) hn (by rfl) hI (u8 := u8) (u9 := u9) (u10 := u10) (u11 := u11))
    have h' : (64 : Int) < (n : Int) := by omega
    clear hL hI h
    go_enter Tryd.func17, Tryd.ntmps17
    refine wp_seq_k (fun K0 hK0 => ?_)
    have HK0 := Lib.hid hK0
    clear hK0
    go_wp2
    refine HK0.out _ _ ?_
    clear HK0
    refine wp_seq_k (fun K0 hK0 => ?_)
    have HK0 := Lib.hid hK0
    clear hK0
    go_wp2
    refine HK0.out _ _ ?_
    clear HK0
    refine wp_seq_k (fun K0 hK0 => ?_)
    have HK0 := Lib.hid hK0
    clear hK0
    go_wp2
    refine HK0.out _ _ ?_
    exact HP.out _ _ _ _
  · have HP := Lib.hid (fun (u8 u9 u10 u11 : Value) => rreach_piece (cap := cap) (N := n) (z := (n : Int)) hL (by omega) hn (by rfl) hI (u8 := u8) (u9 := u9) (u10 := u10) (u11 := u11))
    have h' : ¬ (64 : Int) < (n : Int) := by omega
    clear hL hI h
    go_enter Tryd.func17, Tryd.ntmps17
    refine wp_seq_k (fun K0 hK0 => ?_)
    have HK0 := Lib.hid hK0
    clear hK0
    go_wp2
    refine HK0.out _ _ ?_
    clear HK0
    refine wp_seq_k (fun K0 hK0 => ?_)
    have HK0 := Lib.hid hK0
    clear hK0
    go_wp2
    refine HK0.out _ _ ?_
    clear HK0
    refine wp_seq_k (fun K0 hK0 => ?_)
    have HK0 := Lib.hid hK0
    clear hK0
    go_wp2
    refine HK0.out _ _ ?_
    exact HP.out _ _ _ _
end Go.Proofs.YtadogffllkompaaDoor
