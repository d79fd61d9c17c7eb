/-
  A scan: Quiet, Poll.
-/
import Derived.WalkMore
import Derived.Test.YtlmepjpkaionbaaDoorSnB
namespace Go.Proofs.YtlmepjpkaionbaaDoor
open Go.RowKit

theorem without_one (p : Nat → Bool) (r : Int) (W : World) (t : TypeId) {M M' : Nat} (hM : mskN p = M) (hM' : mskN (rmv p r) = M') :
    Calls Tryd.prog 34 #[.int .u64 (M : Int), .slice (some ⟨W.heap.size, 0, none⟩) 1 1] (W.alloc (.cells #[.int .i64 r] t)) fun e w' => e = .returned (.int .u64 (M' : Int)) ∧ (W.alloc (.cells #[.int .i64 r] t)) = w' := by
  rw [← hM', ← rmv_msk, ← hM]
  exact Mk.without_any _ (mskN_lt p) (some ⟨W.heap.size, 0, none⟩) 1 [r] _ (by simp) (intsAt_one (cell_new W _ _).1)
theorem len_msk (p : Nat → Bool) (w : World) {M : Nat} (hM : mskN p = M) :
    Calls Tryd.prog 35 #[.int .u64 (M : Int)] w fun e w' => e = .returned (.int .i64 ((cntN p 64 : Nat) : Int)) ∧ w = w' := by
  rw [← hM, ← pc_msk]
  exact Mk.len_any _ (mskN_lt p) w
theorem tab_ch {S : List Nat} {w w' : World} (h : Mk.Tab w) (hc : Ch S w w') (hS : 0 ∉ S) : Mk.Tab w' :=
  fun j hj => (hc.cell (p := ⟨0, j, none⟩) (cell_lt (h j hj)) hS).trans (h j hj)

set_option maxHeartbeats 1000000 in
theorem quiet_any {w : World} {c : Nat} {pt : Value} {t : Int} {p : Nat → Bool} {P : Nat} (h : Sn w c pt t p P) {f : Int → Int} (hf : Sns w c pt f) {a : Option Addr} {cap : Nat} {zs : List Int} (hz : Mk.IntsAt w a zs) (hb : zs = [] ∨ ∀ y, a = some y → y.block ≠ c) (hl : zs.length ≤ 1000) :
    Calls Tryd.prog 17 #[.pointer (some ⟨c, 0, none⟩), .slice a zs.length cap] w fun e w' => e = .returned (.int .i64 ((cntN p 64 : Int) - (cntN (quietL (fun r => endB t (f r)) p zs) 64 : Int))) ∧
      Sn w' c pt t (quietL (fun r => endB t (f r)) p zs) P ∧ Ch [c] w w' := by
  obtain ⟨n, hn⟩ : ∃ n, n = zs.length := ⟨_, rfl⟩
  obtain ⟨E, hE⟩ : ∃ E : Int → Bool, E = fun r => endB t (f r) := ⟨_, rfl⟩
  rw [← hn, ← hE]
  have H := Lib.hid h
  have HF := Lib.hid hf
  have HZ := Lib.hid hz
  have HB := Lib.hid hb
  have HN := Lib.hid hn
  have HE := Lib.hid hE
  have hle : n ≤ 1000 := by omega
  obtain ⟨M, hM⟩ : ∃ M, mskN p = M := ⟨_, rfl⟩
  have HL0 := Lib.hid (fun w => len_msk p w hM)
  have c2 := h.c2
  rw [hM] at c2
  have hq0 := cntN_le p 64
  generalize hC0 : cntN p 64 = C0 at *
  have HC0 := Lib.hid hC0
  clear h hf hz hb hn hl hE hM hC0
  go_enter Tryd.func17, Tryd.ntmps17
  go_wp2_with fail
  with_reducible refine (HL0.out _).mono ?_
  rintro e w' ⟨rfl, rfl⟩
  clear c2
  go_wp2_with fail
  go_loopw [17] (fun i wr => ∃ k : Nat, k ≤ n ∧ i = .int .i64 (k : Int) ∧ Sn wr c pt t (quietL E p (zs.take k)) P ∧ Ch [c] w wr) (fun i _ => n - (intOf i).toNat)
  case atStart => exact ⟨0, Nat.zero_le _, rfl, H.out, Ch.refl _ _⟩
  case round =>
    obtain ⟨k, hk, rfl, hs, hc⟩ := hrel
    by_cases hlt : k < n
    · have hm := intsAt_ch HZ.out hc (HB.out.imp_right fun h y e => by simpa using h y e)
      rcases hm with h0 | ⟨g, off, rfl, hcc⟩
      · exfalso; rw [HN.out, h0] at hlt; simp at hlt
      · have hcc := hcc k (by rw [← HN.out]; exact hlt)
        obtain ⟨z, hz⟩ : ∃ z, z = zs[k]?.getD 0 := ⟨_, rfl⟩
        rw [← hz] at hcc
        have ht := quietL_take (e := E) (p := p) (show k < zs.length by rw [← HN.out]; exact hlt)
        rw [← hz] at ht
        have HT := Lib.hid ht
        have C1 := Lib.hid (ended_any hs (HF.out.ch hc) z)
        rw [show endB t (f z) = E z from by rw [HE.out]] at C1
        obtain ⟨q, hq⟩ : ∃ q, q = quietL E p (zs.take k) := ⟨_, rfl⟩
        rw [← hq] at hs HT
        unfold lookL at HT
        have HS := Lib.hid hs
        have HC := Lib.hid hc
        clear hz ht hs hc hq
        cases he : E z with
        | false =>
          rw [he] at C1 HT
          simp only [Bool.false_eq_true, if_false] at HT
          go_wp2_with fail
          with_reducible refine C1.out.mono ?_
          rintro e w' ⟨rfl, rfl⟩
          go_wp2_with fail
          go_roundw
          case rel => exact ⟨k + 1, by omega, by go_num, by rw [HT.out]; exact HS.out, HC.out⟩
          case measure => simp [intOf]; omega
        | true =>
          rw [he] at C1 HT
          simp only [if_true] at HT
          obtain ⟨M1, hM1⟩ : ∃ M, mskN q = M := ⟨_, rfl⟩
          obtain ⟨M2, hM2⟩ : ∃ M, mskN (rmv q z) = M := ⟨_, rfl⟩
          have C2 := Lib.hid (without_one q z wr 3 hM1 hM2)
          have hS2 := HS.out.ch ((Ch.refl [] wr).alloc (.cells #[.int .i64 z] 3)) (by simp)
          have c2 := HS.out.c2
          rw [hM1] at c2
          have d2 := hS2.c2
          have f2 := hS2.fr 2
          have HS2 := Lib.hid (hS2.setL (rmv q z))
          rw [hM2] at HS2
          have HC2 := Lib.hid ((HC.out.alloc (.cells #[.int .i64 z] 3)).setCell (p := ⟨c, 2, none⟩) (by simp) (.int .u64 (M2 : Int)))
          clear hS2 hM1 hM2 he
          go_wp2_with fail
          with_reducible refine C1.out.mono ?_
          rintro e w' ⟨rfl, rfl⟩
          go_wp2_with fail
          with_reducible refine C2.out.mono ?_
          rintro e w' ⟨rfl, rfl⟩
          go_wp2_with fail
          go_roundw
          case rel => exact ⟨k + 1, by omega, by go_num, by rw [HT.out]; exact HS2.out, HC2.out⟩
          case measure => simp [intOf]; omega
    · have e : zs.take k = zs := List.take_of_length_le (by rw [← HN.out]; omega)
      rw [e] at hs
      have hqn := cntN_le (quietL E p zs) 64
      obtain ⟨q, hq⟩ : ∃ q, q = quietL E p zs := ⟨_, rfl⟩
      rw [← hq] at hs hqn
      have HQ := Lib.hid hq
      have HS := Lib.hid hs
      have HC := Lib.hid hc
      obtain ⟨M1, hM1⟩ : ∃ M, mskN q = M := ⟨_, rfl⟩
      have c2 := hs.c2
      rw [hM1] at c2
      have C2 := Lib.hid (len_msk q wr hM1)
      generalize hC1 : cntN q 64 = C1 at *
      have HC1 := Lib.hid hC1
      have hws : IntKind.i64.wrap ((C0 : Int) - (C1 : Int)) = (C0 : Int) - (C1 : Int) := IntWalk.i64_in _ (by omega)
      clear e hs hc hq hM1 hC1
      go_wp2_with fail
      with_reducible refine C2.out.mono ?_
      rintro e w' ⟨rfl, rfl⟩
      go_wp2_with fail
      go_ret
      rw [← HQ.out, HC1.out]
      exact ⟨rfl, HS.out, HC.out⟩
end Go.Proofs.YtlmepjpkaionbaaDoor
