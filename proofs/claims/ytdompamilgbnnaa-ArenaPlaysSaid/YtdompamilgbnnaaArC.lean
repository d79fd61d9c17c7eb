/-
  Contracts of the document's answer for layer 3: Free.
-/
import Derived.Test.YtdompamilgbnnaaArB
namespace Go.Proofs.Ytdompamilgbnnaa
open Go.RowKit aI

attribute [local go_sem] Oper.semAt_some

set_option maxHeartbeats 2000000 in
theorem rfree_any {w : World} {D : Nat} {v : Value} {xs : List (Sl Int)} (h : RS w D v xs) (hD : D ≤ w.heap.size) (h64 : xs.length ≤ 64) (hgb : ∀ k, k < xs.length → good (at0 xs k)) (s g : Int) :
    Calls Try.prog 16 #[v, .int .i64 s, .int .i64 g] w fun e w' => ∃ v', e = .returned (.tuple #[v', .int .i64 (findE xs s g)]) ∧ RS w' D v' (freeL xs s g) ∧ Below w.heap.size w w' := by
  obtain ⟨i0, hI, hz0, hz1, hz2⟩ := info_parts infoR
  have HF := Lib.hid (rfind_any h s g)
  have HH := Lib.hid h
  have HOne := Lib.hid (rcs_one xs)
  clear h
  by_cases hE : findE xs s g = 0
  · rw [hE] at HF ⊢
    obtain ⟨k, rfl, hk, hh, rfl⟩ := findE_zero hE
    have HE := Lib.hid (show freeL xs (k : Int) ((at0 xs k).gen : Int) = xs.set k ⟨(at0 xs k).gen + 1, false, 0⟩ by unfold freeL; rw [if_pos hE, Int.toNat_natCast]; rfl)
    have hg := (hgb k hk).2 hh
    have hb0 : (0 : Int) ≤ (k : Int) := by omega
    have hb1 : (k : Int) < (xs.length : Int) := by omega
    have ht : ((k : Int)).toNat = k := rfl
    obtain ⟨ge, hge⟩ : ∃ ge, ge = (at0 xs k).gen := ⟨_, rfl⟩
    rw [← hge] at hg HE HF ⊢
    have HK := Lib.hid hk
    clear hE hh hge hk hgb
    go_enter Try.func16, Try.ntmps16
    go_wp2_with fail
    with_reducible refine HF.out.mono ?_
    rintro e w' ⟨rfl, rfl⟩
    go_wp2_with (at_builtin; go_must (refine wpList_append_row rfl _ _ 28 rfl w.heap.size 43 i0 (.agg #[.int .i64 0, .bool false, .int .i64 0]) 3 24 Try.underlying28 hI hz0 hz1 hz2 rfl (by decide) (.slice (some ⟨w.heap.size, 0, none⟩) 0 0) 0 [] rfl ?c0 ?c1 D v xs.length (rcs xs) rfl ?c2 HOne.out ?c3 ?c4 ?c5 ?_))
    case c0 => exact World.ownsRow_lit w #[] 0 (Nat.le_refl _) (Nat.zero_le _) rfl
    case c1 => intro e; cases e
    case c2 => exact World.ownsRow.alloc HH.out _
    case c3 => unfold maxLen; omega
    case c4 => omega
    case c5 => simp
    intro v1 w1 hown1 hgrow1 hne1
    have hB1 : Below w.heap.size w w1 := ((Below.refl _ _).alloc (Nat.le_refl _) _).grown hgrow1 (by simp) (fun k e => by cases e; exact Nat.le_refl _)
    obtain ⟨g1, cp1, rfl⟩ := own_some hown1 hne1
    have hR1 : RS w1 w.heap.size (.slice (some ⟨g1, 0, none⟩) xs.length cp1) xs := by
      unfold RS
      simpa using hown1
    have HT := Lib.hid (hR1.emptied k HK.out (ge + 1))
    have hgb : w.heap.size ≤ g1 := (World.ownsRow.lt hR1 g1 rfl).1
    have HB := Lib.hid (((hB1.setCell (p := ⟨g1, k * 3, none⟩) hgb (.int .i64 ((ge + 1 : Nat) : Int))).setCell (p := ⟨g1, k * 3 + 1, none⟩) hgb (.bool false)).setCell (p := ⟨g1, k * 3 + 2, none⟩) hgb (.int .i64 0))
    obtain ⟨G, cap', e, _, _, c0, c1, c2, hf⟩ := hR1.cells HK.out
    cases e
    have f0 := hf (k * 3)
    have f1 := hf (k * 3 + 1)
    have f2 := hf (k * 3 + 2)
    clear hf hown1 hB1 hgrow1 hne1 hR1
    go_wp2
    go_ret2
    exact ⟨_, rfl, by rw [HE.out]; exact HT.out.mono hD, HB.out⟩
  · have HE := Lib.hid (show freeL xs s g = xs by unfold freeL; rw [if_neg hE])
    generalize findE xs s g = E at *
    have hd1 : (E == 0) = false := by simpa using hE
    go_enter Try.func16, Try.ntmps16
    go_wp2_with fail
    with_reducible refine HF.out.mono ?_
    rintro e w' ⟨rfl, rfl⟩
    go_wp2
    go_ret2
    exact ⟨_, rfl, by rw [HE.out]; exact HH.out, Below.refl _ _⟩
end Go.Proofs.Ytdompamilgbnnaa
