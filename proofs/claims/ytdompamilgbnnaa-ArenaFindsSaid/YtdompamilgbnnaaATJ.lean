/-
  An arena of Thing: Free.
-/
import Derived.Test.YtdompamilgbnnaaATD
namespace Go.Proofs.Ytdompamilgbnnaa.aT
open Go.RowKit

attribute [local go_sem] Oper.semAt_some

/-- The handles that a slice at a reads as. -/
def HAt (w : World) (a : Option Addr) (hs : List (Int × Int)) : Prop :=
  hs = [] ∨ ∃ b off, a = some ⟨b, off, none⟩ ∧ ∀ i, i < hs.length → w.cell? ⟨b, off + i * 2, none⟩ = some (.int .i64 (hs[i]?.getD (0, 0)).1) ∧ w.cell? ⟨b, off + i * 2 + 1, none⟩ = some (.int .i64 (hs[i]?.getD (0, 0)).2)
theorem HAt.ch {w w' : World} {S : List Nat} {a : Option Addr} {hs : List (Int × Int)} (h : HAt w a hs) (hc : Ch S w w') (hb : hs ≠ [] → ∀ x, a = some x → x.block ∉ S) : HAt w' a hs := by
  by_cases h0 : hs = []
  · exact .inl h0
  have hb := hb h0
  rcases h with h | ⟨b, off, rfl, h⟩
  · exact .inl h
  · exact .inr ⟨b, off, rfl, fun i hi => ⟨(hc.cell (p := ⟨b, off + i * 2, none⟩) (cell_lt (h i hi).1) (hb ⟨b, off, none⟩ rfl)).trans (h i hi).1, (hc.cell (p := ⟨b, off + i * 2 + 1, none⟩) (cell_lt (h i hi).2) (hb ⟨b, off, none⟩ rfl)).trans (h i hi).2⟩⟩
theorem HAt.one {w : World} {B : Nat} {s g : Int} (h : Box2 w B (.int .i64 s) (.int .i64 g)) : HAt w (some ⟨B, 0, none⟩) [(s, g)] := by
  refine .inr ⟨B, 0, rfl, fun i hi => ?_⟩
  simp at hi
  subst hi
  exact ⟨h.c0, h.c1⟩

set_option maxHeartbeats 2000000 in
theorem free_many {w : World} {R G : Nat} {xs : List (Sl Th)} (h : AC w R G xs) (a : Option Addr) (cap : Nat) (hs : List (Int × Int)) (hz : HAt w a hs) (hl : hs.length ≤ 9223372036854775807)
    (hb : hs ≠ [] → ∀ x, a = some x → x.block ∉ [G]) :
    Calls Try.prog 25 #[.pointer (some ⟨R, 0, none⟩), .slice a hs.length cap] w fun e w' => e = .returned (.int .i64 (freeN xs hs).2) ∧ AC w' R G (freeN xs hs).1 ∧ Ch [G] w w' := by
  obtain ⟨n, hn⟩ : ∃ n, n = hs.length := ⟨_, rfl⟩
  rw [← hn] at hl ⊢
  have HA := Lib.hid h
  have HZ := Lib.hid hz
  have HB := Lib.hid hb
  have HN := Lib.hid hn
  clear h hz hb hn
  go_enter Try.func25, Try.ntmps25
  go_wp2
  go_loopw [13] (fun x wr => ∃ (k : Nat) (ys : List (Sl Th)), k ≤ n ∧ x = .int .i64 (k : Int) ∧ AC wr R G ys ∧ freeN xs hs = freeN ys (hs.drop k) ∧ Ch [G] w wr) (fun x _ => n - (intOf x).toNat)
  case atStart => exact ⟨0, xs, Nat.zero_le _, rfl, HA.out, rfl, Ch.refl _ _⟩
  case round =>
    obtain ⟨k, ys, hk, rfl, hA, hF, hC⟩ := hrel
    have HC := Lib.hid hC
    have HAw := Lib.hid hA
    have HF := Lib.hid hF
    clear hC hA hF
    by_cases hlt : k < n
    · rcases HZ.out.ch HC.out HB.out with h0 | ⟨b, off, rfl, hc0⟩
      · exfalso; rw [HN.out, h0] at hlt; simp at hlt
      · have hk' : k < hs.length := by rw [← HN.out]; exact hlt
        obtain ⟨hca, hcb⟩ := hc0 k hk'
        have hdrop : hs.drop k = hs[k]?.getD (0, 0) :: hs.drop (k + 1) := by
          rw [List.drop_eq_getElem_cons hk']; simp [hk']
        have HD := Lib.hid hdrop
        clear hc0 hdrop hk'
        generalize hs[k]?.getD (0, 0) = p at *
        obtain ⟨s, g⟩ := p
        simp only at hca hcb
        have hc1 := HC.out.alloc (.cells #[.int .i64 s, .int .i64 g] 33)
        have HA1 := Lib.hid (HAw.out.ch ((Ch.refl [] wr).alloc (.cells #[.int .i64 s, .int .i64 g] 33)) (by simp) (by simp))
        have HB1 := Lib.hid (Box2.new wr (.int .i64 s) (.int .i64 g) 33)
        have HC1 := Lib.hid hc1
        have HAt := Lib.hid (at_any HA1.out s g)
        clear hc1
        go_wp2_with fail
        generalize wr.alloc (.cells #[.int .i64 s, .int .i64 g] 33) = w1 at *
        refine HAt.out.mono ?_
        rintro e w2 ⟨rfl, hc2⟩
        have HA2 := Lib.hid (HA1.out.ch hc2 (by simp) (by simp))
        have HC2 := Lib.hid (HC1.out.trans (hc2.mono (by simp)))
        clear hc2 HA1 HC1
        by_cases hE : findE ys s g = 0
        · rw [hE, if_pos rfl]
          obtain ⟨j, rfl, hj, hh, rfl⟩ := findE_zero hE
          have hfl : freeL ys (j : Int) ((at0 ys j).gen : Int) = ys.set j ⟨(at0 ys j).gen + 1, false, default⟩ := by unfold freeL; rw [if_pos hE, Int.toNat_natCast]
          have hg := ((HA2.out.gb j hj).2 hh)
          have HEm := Lib.hid (empty_any HA2.out j hj hg)
          have HFn := Lib.hid (show freeN xs hs = freeN (freeL ys (j : Int) ((at0 ys j).gen : Int)) (hs.drop (k + 1)) by
            rw [HF.out, HD.out, freeN, if_pos hE])
          rw [← hfl] at HEm
          obtain ⟨zs, hzs⟩ : ∃ zs, zs = freeL ys (j : Int) ((at0 ys j).gen : Int) := ⟨_, rfl⟩
          rw [← hzs] at HEm HFn
          clear hfl hg hh hE hzs HD HF
          rw [Int.toNat_natCast]
          generalize (at0 ys j).gen = ge at *
          go_wp2_with fail
          refine HEm.out.mono ?_
          rintro e w3 ⟨⟨v, rfl⟩, hA3, hC3⟩
          have HA3 := Lib.hid hA3
          have HC3 := Lib.hid (HC2.out.trans hC3)
          clear hA3 hC3
          go_wp2
          go_roundw
          case rel => exact ⟨k + 1, zs, by omega, by go_num, HA3.out, HFn.out, HC3.out⟩
          case measure => simp [intOf]; omega
        · rw [if_neg hE]
          have HFn := Lib.hid (show freeN xs hs = (ys, findE ys s g) by rw [HF.out, HD.out, freeN, if_neg hE])
          have hd1 : (findE ys s g == 0) = false := by simpa using hE
          generalize findE ys s g = E at *
          clear HF HD
          go_wp2
          go_ret
          exact ⟨by rw [HFn.out]; rfl, by rw [HFn.out]; exact HA2.out, HC2.out⟩
    · obtain rfl : k = n := by omega
      have HE := Lib.hid (show freeN xs hs = (ys, 0) by rw [HF.out, List.drop_of_length_le (by rw [← HN.out]; exact Nat.le_refl _), freeN])
      go_wp2
      go_ret
      exact ⟨by rw [HE.out]; rfl, by rw [HE.out]; exact HAw.out, HC.out⟩

theorem free_one {w : World} {R G : Nat} {xs : List (Sl Th)} (h : AC w R G xs) (B cap : Nat) (s g : Int) (hb : Box2 w B (.int .i64 s) (.int .i64 g)) (hne : B ≠ G) :
    Calls Try.prog 25 #[.pointer (some ⟨R, 0, none⟩), .slice (some ⟨B, 0, none⟩) 1 cap] w fun e w' => e = .returned (.int .i64 (findE xs s g)) ∧ AC w' R G (freeL xs s g) ∧ Ch [G] w w' := by
  have := free_many h (some ⟨B, 0, none⟩) cap [(s, g)] (HAt.one hb) (by simp) (fun _ x hx => by cases hx; simpa using hne)
  rw [freeN_one] at this
  exact this

theorem free_nil (w : World) (v : Value) :
    Calls Try.prog 25 #[.pointer none, v] w fun e w' => e = .returned (.int .i64 6) ∧ w = w' := by
  go_enter Try.func25, Try.ntmps25
  go_wp2
  go_ret
  exact ⟨rfl, rfl⟩
end Go.Proofs.Ytdompamilgbnnaa.aT
