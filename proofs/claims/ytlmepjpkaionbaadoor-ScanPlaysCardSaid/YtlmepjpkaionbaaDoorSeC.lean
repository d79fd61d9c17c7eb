/-
  Sections: Exit, Enter.
-/
import Derived.Test.YtlmepjpkaionbaaDoorSeB
namespace Go.Proofs.YtlmepjpkaionbaaDoor
open Go.RowKit

set_option maxHeartbeats 1000000 in
theorem exit_any {w : World} {b : Nat} {x : SS} (h : Sec w b x) (hg : GS x) (r : Int) :
    Calls Tryd.prog 25 #[.pointer (some ⟨b, 0, none⟩), .int .i64 r] w fun e w' => e = .returned (.tuple #[.bool (exitB x r), .int .i64 (exitE x r)]) ∧ Sec w' b (exitS x r) ∧ Ch [b] w w' := by
  have HI := Lib.hid (isr_any r w)
  by_cases hr : 0 ≤ r ∧ r < 64
  · obtain ⟨k, rfl⟩ : ∃ k : Nat, r = (k : Int) := ⟨r.toNat, by omega⟩
    have hk : k < 64 := by omega
    have hk' : (k : Int) < 64 := by omega
    have c := h.d k hk
    rw [decide_eq_true hr] at HI
    have d0 := hg.d0 k
    have d8 := hg.d8 k
    by_cases h0 : x.d k = 0
    · have hE : exitE x (k : Int) = 6 := by unfold exitE; rw [if_pos hr, Int.toNat_natCast, if_pos h0]
      have hS : exitS x (k : Int) = x := by unfold exitS; rw [if_neg (by rw [hE]; decide)]
      have hB : exitB x (k : Int) = false := by unfold exitB; rw [hE]; rfl
      rw [hE, hS, hB]
      have H := Lib.hid h
      rw [h0] at c
      clear h hr hE hS hB hg
      go_enter Tryd.func25, Tryd.ntmps25
      go_wp2_with (with_reducible refine HI.out.mono ?_; rintro e w' ⟨rfl, rfl⟩)
      go_ret2
      exact ⟨rfl, H.out, Ch.refl _ _⟩
    · have hE : exitE x (k : Int) = 0 := by unfold exitE; rw [if_pos hr, Int.toNat_natCast, if_neg h0]
      have hS : exitS x (k : Int) = outS x k := by unfold exitS; rw [if_pos hE]; rfl
      by_cases h1 : x.d k = 1
      · have hB : exitB x (k : Int) = true := by unfold exitB; rw [hE, Int.toNat_natCast, h1]; rfl
        have hO : outS x k = ⟨x.n, putF x.d k 0, putF x.s k 0⟩ := by unfold outS; rw [if_pos h1, h1]; rfl
        rw [hE, hS, hB, hO]
        have f := h.fr (1 + k)
        have hwd : IntKind.i64.wrap (1 - 1) = 0 := by decide
        rw [h1] at c
        have H := Lib.hid h
        clear h hr hE hS hB hg hO h0
        go_enter Tryd.func25, Tryd.ntmps25
        go_wp2_with (with_reducible refine HI.out.mono ?_; rintro e w' ⟨rfl, rfl⟩)
        go_region
        obtain ⟨w2, hw2⟩ : ∃ w2, w2 = (w.setCell ⟨b, 1 + k, none⟩ (.int .i64 0)).drew := ⟨_, rfl⟩
        have HS := Lib.hid (show Sec w2 b ⟨x.n, putF x.d k 0, x.s⟩ from by rw [hw2]; exact (H.out.setD hk 0).drew)
        have HC := Lib.hid (show Ch [b] w w2 from by rw [hw2]; exact ((Ch.refl [b] w).setCell (by simp) _).drew)
        rw [← hw2]
        clear hw2 c f HI
        have c2 := HS.out.d k hk
        dsimp only at c2
        rw [putF_same] at c2
        have e2 := HS.out.s k hk
        have f2 := HS.out.fr (65 + k)
        have HS2 := Lib.hid (HS.out.setS hk 0)
        have HC2 := Lib.hid (HC.out.setCell (p := ⟨b, 65 + k, none⟩) (by simp) (.int .i64 0))
        go_wp2_with fail
        go_ret2
        exact ⟨rfl, HS2.out, HC2.out⟩
      · have hB : exitB x (k : Int) = false := by unfold exitB; rw [hE, Int.toNat_natCast, decide_eq_false h1]; rfl
        have hO : outS x k = ⟨x.n, putF x.d k (x.d k - 1), x.s⟩ := by unfold outS; rw [if_neg h1]
        rw [hE, hS, hB, hO]
        have f := h.fr (1 + k)
        have hwd : IntKind.i64.wrap (x.d k - 1) = x.d k - 1 := IntWalk.i64_in _ (by omega)
        have h0' : (x.d k == 0) = false := by simpa using h0
        have H := Lib.hid h
        clear h hr hE hS hB hg hO
        go_enter Tryd.func25, Tryd.ntmps25
        go_wp2_with (with_reducible refine HI.out.mono ?_; rintro e w' ⟨rfl, rfl⟩)
        go_region
        obtain ⟨w2, hw2⟩ : ∃ w2, w2 = (w.setCell ⟨b, 1 + k, none⟩ (.int .i64 (x.d k - 1))).drew := ⟨_, rfl⟩
        have HS := Lib.hid (show Sec w2 b ⟨x.n, putF x.d k (x.d k - 1), x.s⟩ from by rw [hw2]; exact (H.out.setD hk (x.d k - 1)).drew)
        have HC := Lib.hid (show Ch [b] w w2 from by rw [hw2]; exact ((Ch.refl [b] w).setCell (by simp) _).drew)
        rw [← hw2]
        clear hw2 c f HI
        have c2 := HS.out.d k hk
        dsimp only at c2
        rw [putF_same] at c2
        have hgt : 1 < x.d k := by omega
        clear hwd h0' h0 h1
        go_wp2_with fail
        go_ret2
        exact ⟨rfl, HS.out, HC.out⟩
  · have hE : exitE x r = 2 := by unfold exitE; rw [if_neg hr]
    have hS : exitS x r = x := by unfold exitS; rw [if_neg (by rw [hE]; decide)]
    have hB : exitB x r = false := by unfold exitB; rw [hE]; rfl
    rw [hE, hS, hB]
    rw [decide_eq_false hr] at HI
    have H := Lib.hid h
    clear h hr hE hS hB hg
    go_enter Tryd.func25, Tryd.ntmps25
    go_wp2_with (with_reducible refine HI.out.mono ?_; rintro e w' ⟨rfl, rfl⟩)
    go_ret2
    exact ⟨rfl, H.out, Ch.refl _ _⟩

theorem intsAt_ch {S : List Nat} {w w' : World} {a : Option Addr} {zs : List Int} (h : Mk.IntsAt w a zs) (hc : Ch S w w') (hn : zs = [] ∨ ∀ y, a = some y → y.block ∉ S) : Mk.IntsAt w' a zs := by
  rcases hn with h0 | hn
  · exact .inl h0
  rcases h with h | ⟨g, off, rfl, h⟩
  · exact .inl h
  · exact .inr ⟨g, off, rfl, fun i hi => (hc.cell (p := ⟨g, off + i, none⟩) (cell_lt (h i hi)) (hn ⟨g, off, none⟩ rfl)).trans (h i hi)⟩
theorem intsAt_one {w : World} {g : Nat} {z : Int} (hc : w.cell? ⟨g, 0, none⟩ = some (.int .i64 z)) : Mk.IntsAt w (some ⟨g, 0, none⟩) [z] :=
  .inr ⟨g, 0, rfl, fun i hi => by
    obtain rfl : i = 0 := by simpa using hi
    exact hc⟩

set_option maxHeartbeats 1000000 in
theorem enter_any {w : World} {b : Nat} {x : SS} (h : Sec w b x) (hg : GS x) {a : Option Addr} {cap : Nat} {zs : List Int} (hn : x.n + zs.length ≤ 1000000) (hz : Mk.IntsAt w a zs) (hb : zs = [] ∨ ∀ y, a = some y → y.block ≠ b) :
    Calls Tryd.prog 26 #[.pointer (some ⟨b, 0, none⟩), .slice a zs.length cap] w fun e w' => e = .returned (.int .i64 (enterL x zs).1) ∧ Sec w' b (enterL x zs).2 ∧ Ch [b] w w' := by
  have n0 := hg.n0
  obtain ⟨n, hl⟩ : ∃ n, n = zs.length := ⟨_, rfl⟩
  rw [← hl]
  have H := Lib.hid h
  have HG := Lib.hid hg
  have HN := Lib.hid hn
  have HZ := Lib.hid hz
  have HB := Lib.hid hb
  have HL := Lib.hid hl
  have hle : n ≤ 1000000 := by omega
  clear h hg hn hz hb hl
  go_enter Tryd.func26, Tryd.ntmps26
  go_wp2
  go_loopw [12] (fun i wr => ∃ (k : Nat) (y : SS), k ≤ n ∧ i = .int .i64 (k : Int) ∧ enterL x (zs.take k) = (0, y) ∧ Sec wr b y ∧ Ch [b] w wr) (fun i _ => n - (intOf i).toNat)
  case atStart => exact ⟨0, x, Nat.zero_le _, rfl, rfl, H.out, Ch.refl _ _⟩
  case round =>
    obtain ⟨k, y, hk, rfl, hy, hs, hc⟩ := hrel
    have HY := Lib.hid hy
    have HS := Lib.hid hs
    have HC := Lib.hid hc
    clear hy hs hc
    by_cases hlt : k < n
    · have hm := intsAt_ch HZ.out HC.out (HB.out.imp_right fun h y e => by simpa using h y e)
      rcases hm with h0 | ⟨g, off, rfl, hcc⟩
      · exfalso; rw [HL.out, h0] at hlt; simp at hlt
      · have hcc := hcc k (by rw [← HL.out]; exact hlt)
        obtain ⟨z, hz⟩ : ∃ z, z = zs[k]?.getD 0 := ⟨_, rfl⟩
        rw [← hz] at hcc
        have hgy := HG.out.enters (zs.take k)
        rw [HY.out] at hgy
        dsimp only at hgy
        have hnt : y.n ≤ 1000000 := by
          have h1 := hgy.2.2
          rw [List.length_take] at h1
          have := HN.out
          omega
        have HO := Lib.hid (one_any HS.out hgy.1 hnt z)
        have ht : zs.take (k + 1) = zs.take k ++ [z] := by
          rw [List.take_succ_eq_append_getElem (by rw [← HL.out]; exact hlt), hz, List.getElem?_eq_getElem (by rw [← HL.out]; exact hlt)]
          rfl
        have hst := enterL_snoc HY.out z
        rw [← ht] at hst
        have HT := Lib.hid hst
        clear hgy hnt hz ht hst
        obtain ⟨e, he⟩ : ∃ e, e = enterE y z := ⟨_, rfl⟩
        rw [← he] at HO HT
        have HE := Lib.hid he
        clear he
        by_cases h0 : e = 0
        · rw [h0] at HO HT
          clear HE h0
          go_wp2_with (with_reducible refine HO.out.mono ?_; rintro _ w' ⟨rfl, hs', hc'⟩; have HS' := Lib.hid hs'; have HC' := Lib.hid hc'; clear hs' hc')
          go_roundw
          case rel => exact ⟨k + 1, enterS y z, by omega, by go_num, HT.out, HS'.out, HC.out.trans HC'.out⟩
          case measure => simp [intOf]; omega
        · have h0' : (e != 0) = true := by simpa using h0
          have hfin : enterL x zs = (e, enterS y z) := by
            have := enterL_stop HT.out h0 (zs.drop (k + 1))
            rwa [List.take_append_drop] at this
          have HF := Lib.hid hfin
          have HH := Lib.hid h0
          clear h0 hfin HE
          go_wp2_with (with_reducible refine HO.out.mono ?_; rintro _ w' ⟨rfl, hs', hc'⟩; have HS' := Lib.hid hs'; have HC' := Lib.hid hc'; clear hs' hc')
          go_ret
          rw [HF.out]
          exact ⟨rfl, HS'.out, HC.out.trans HC'.out⟩
    · go_wp2
      go_ret
      have hfin := HY.out
      rw [List.take_of_length_le (by rw [← HL.out]; omega)] at hfin
      rw [hfin]
      exact ⟨rfl, HS.out, HC.out⟩
end Go.Proofs.YtlmepjpkaionbaaDoor
