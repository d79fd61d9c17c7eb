/-
  The document's Parse.
-/
import Derived.Test.YtgldkalagmjkfaaDoorIsS
import Derived.Test.YtgldkalagmjkfaaDoorIsR
import Derived.Test.YtgldkalagmjkfaaDoorIsH
namespace Go.Proofs.YtgldkalagmjkfaaDoor
open Go.RowKit

attribute [local go_sem] Oper.semAt_some

/-- An instruction of the document's in a block of its own. -/
def Bx5r (w : World) (b : Nat) (x : I5) : Prop := w.heap[b]? = some (.cells #[.int .i64 x.op, .int .i64 x.d, .int .i64 x.s, .int .i64 x.o, .int .i64 x.i] 29)

set_option maxHeartbeats 2000000 in
theorem rparse_any {w : World} {a : Option Addr} {n cap m : Nat} {l : List Int} (hn : l.length = n) (hn2 : n ≤ 10000) (hcap : n ≤ cap) (hcap2 : cap ≤ 9223372036854775807) (hl : byte l) (hb : BytesAt w a l) (hm : 8 * m ≤ n) (hok : ∀ i, i < m → chk (decAt l i) = 0)
    (hend : n < 8 * m + 8 ∨ chk (decAt l m) ≠ 0) :
    Calls Tryd.prog 21 #[.slice a n cap] w fun e w' => Ch [] w w' ∧ ((8 * m + 8 ≤ n ∧ e = .returned (.tuple #[.slice none 0 0, .int .i64 (m : Int), .int .i64 (chk (decAt l m))])) ∨ (n < 8 * m + 8 ∧ n ≠ 8 * m ∧ e = .returned (.tuple #[.slice none 0 0, .int .i64 (m : Int), .int .i64 10])) ∨ (n = 8 * m ∧ ∃ v, e = .returned (.tuple #[v, .int .i64 0, .int .i64 0]) ∧ IR w' w.heap.size 29 v (decs l m))) := by
  obtain ⟨i0, hI, hz0, hz1, hz2⟩ : ∃ i : TypeInfo, Tryd.prog.info? 29 = some i ∧ i.zero = some (.agg #[.int .i64 0, .int .i64 0, .int .i64 0, .int .i64 0, .int .i64 0]) ∧ i.size = 5 ∧ i.bytes = 40 := by
    refine ⟨_, rfl, by kernel_rfl, by kernel_rfl, by kernel_rfl⟩
  have HN := Lib.hid hn
  have HB := Lib.hid hb
  have HOk := Lib.hid hok
  have HEn := Lib.hid hend
  have HL := Lib.hid hl
  have HM := Lib.hid hm
  clear hn hb hok hend hl hm
  go_enter Tryd.func21, Tryd.ntmps21
  go_wp2_with fail
  go_loopw [5] (fun v wr => ∃ (k : Nat), k ≤ m ∧ Ch [] w wr ∧ IR wr w.heap.size 29 v (decs l k)) (fun v _ => match v with | .slice _ q _ => n - q | _ => 0)
  case atStart => exact ⟨0, Nat.zero_le _, Ch.refl _ _, IR.nil _ _ _⟩
  case round =>
    obtain ⟨k, hk, hch, hir⟩ := hrel
    have HC := Lib.hid hch
    have HR := Lib.hid hir
    have HK := Lib.hid hk
    obtain ⟨av, ac, rfl, -, -⟩ := HR.out.form
    rw [decs_len] at HR ⊢
    have w1 : IntKind.i64.wrap (8 * (k : Int)) = 8 * (k : Int) := by have := HM.out; rw [IntKind.wrap_i64]; omega
    have w2' : IntKind.i64.wrap (8 * (k : Int) + 8) = 8 * (k : Int) + 8 := by have := HM.out; rw [IntKind.wrap_i64]; omega
    by_cases h8 : 8 * k + 8 ≤ n
    · have hlt8 : decide (8 * (k : Int) + 8 ≤ (n : Int)) = true := decide_eq_true (by omega)
      rcases HB.out with h0 | ⟨b', o', rfl, hcl⟩
      · exfalso; have := HN.out; rw [h0] at this; simp at this; omega
      · have hy := by8 (k := k) HL.out (by rw [HN.out]; exact h8) hcl
        have hyw : By8 wr b' (o' + 8 * k) (fun j => l.getD (8 * k + j) 0) := ⟨fun j hj => (HC.out.cell (cell_lt (hy.c j hj)) (by simp)).trans (hy.c j hj), hy.lo, hy.hi⟩
        have hrd := one_any (cap := cap - 8 * k) hyw
        have hda : decAt l k = dec (fun j => l.getD (8 * k + j) 0) := rfl
        rw [← hda] at hrd
        have HRd := Lib.hid hrd
        have HS := Lib.hid (decs_succ l k)
        have HLast := Lib.hid (show chk (decAt l k) ≠ 0 → k = m from fun h => by
          rcases Nat.lt_or_ge k m with e | e
          · exact absurd (HOk.out k e) h
          · have := HK.out; omega)
        have HKm := Lib.hid (show chk (decAt l k) = 0 → k < m from fun h => by
          rcases Nat.lt_or_ge k m with e | e
          · exact e
          · have hkm : k = m := by have := HK.out; omega
            rcases HEn.out with h1 | h1
            · omega
            · rw [← hkm] at h1; exact absurd h h1)
        have HCk := Lib.hid (fun w => rcheck_any (decAt l k) w)
        have HE1 := Lib.hid (show k = m → chk (decAt l k) = chk (decAt l m) from fun h => by rw [h])
        clear hy hyw hcl hch hir hk hrd hda
        generalize decAt l k = x at *
        obtain ⟨op, d, s, o, i⟩ := x
        unfold iv at *
        simp only at *
        go_wp2_with fail
        with_reducible refine HRd.out.mono ?_
        rintro e w3 ⟨rfl, hc1⟩
        have HF5 := Lib.hid (Five.new w3 ⟨op, d, s, o, i⟩ 29)
        have HC1 := Lib.hid ((HC.out.trans hc1).alloc (.cells #[.int .i64 op, .int .i64 d, .int .i64 s, .int .i64 o, .int .i64 i] 29))
        have HR1 := Lib.hid ((HR.out.ch hc1 (by simp)).ch ((Ch.refl [] w3).alloc (.cells #[.int .i64 op, .int .i64 d, .int .i64 s, .int .i64 o, .int .i64 i] 29)) (by simp))
        obtain ⟨a0, a1, a2, a3, a4⟩ := HF5.out
        simp only at a0 a1 a2 a3 a4
        clear hc1 HR
        by_cases hz : chk ⟨op, d, s, o, i⟩ = 0
        · have hkm := HKm.out hz
          have HZ := Lib.hid hz
          rw [hz] at HCk
          clear hz
          go_wp2_with fail
          with_reducible refine (HCk.out _).mono ?_
          rintro e w4 ⟨rfl, hc2⟩
          have HF6 := Lib.hid (HF5.out.ch hc2 (by simp))
          have HC2 := Lib.hid (HC1.out.trans hc2)
          have HR2 := Lib.hid (HR1.out.ch hc2 (by simp))
          obtain ⟨b0, b1, b2, b3, b4⟩ := HF6.out
          simp only at b0 b1 b2 b3 b4
          clear hc2 a0 a1 a2 a3 a4
          go_wp2_with (at_builtin; go_must (refine wpList_append_own _ rfl _ _ 38 rfl w.heap.size 29 i0 (.agg #[.int .i64 0, .int .i64 0, .int .i64 0, .int .i64 0, .int .i64 0]) 5 40 Tryd.underlying38 hI hz0 hz1 hz2 rfl (by decide) _ k ((decs l k).flatMap fiv) rfl (by have := HR2.out; unfold IR at this; rw [decs_len] at this; exact this.alloc _) ⟨w4.heap.size, 0, none⟩ 1 1 (fiv ⟨op, d, s, o, i⟩) rfl rfl (cells_five w4 ⟨op, d, s, o, i⟩ _) (by simp [fiv, Value.oneCell']) (by unfold maxLen; omega) (by omega) (by have := HC2.out.size; simp; omega) ?_); intro v5 w5 hown3 hgrow3 hnil3; refine Hid.out ?_)
          refine Lib.hid ?_
          have HC3 := Lib.hid (own_new (HC2.out.alloc _) hgrow3 (Nat.le_refl _) (by have := HR2.out; unfold IR at this; rw [decs_len] at this; exact this.alloc _))
          have HR3 := Lib.hid (show IR w5 w.heap.size 29 v5 (decs l (k + 1)) by rw [HS.out]; exact IR.snoc (by rw [decs_len]; exact hown3))
          obtain ⟨av3, ac3, rfl⟩ := own_form hown3
          clear hown3 hgrow3 hnil3
          go_wp2_with fail
          go_roundw
          case rel => exact ⟨k + 1, hkm, HC3.out, HR3.out⟩
          case measure => show n - (k + 1) < n - k; omega
        · have hkm := HLast.out hz
          have hE1 := HE1.out hkm
          have hzb : (chk ⟨op, d, s, o, i⟩ != 0) = true := by simpa using hz
          have HZ := Lib.hid hE1
          have HKz := Lib.hid hkm
          generalize chk ⟨op, d, s, o, i⟩ = c at *
          clear hz hE1 hkm
          go_wp2_with (first
            | (with_reducible refine (HCk.out _).mono ?_; rintro e w4 ⟨rfl, hc2⟩; have HC2 := Lib.hid (HC1.out.trans hc2); clear hc2)
            | fail)
          refine bodyPost_ret (v := .tuple #[.slice none 0 0, .int .i64 (k : Int), .int .i64 c]) ?_ rfl ?_
          · simp [results, Tryd.f21, go_sem]
          exact ⟨HC2.out, .inl ⟨by rw [← HKz.out]; exact h8, by rw [← HZ.out, ← HKz.out]⟩⟩
    · have hlt8 : decide (8 * (k : Int) + 8 ≤ (n : Int)) = false := decide_eq_false (by omega)
      have hkm : k = m := by
        have := HM.out; have := HK.out
        rcases Nat.lt_or_ge k m with e | e <;> omega
      have HKz := Lib.hid hkm
      clear hkm hch hir hk
      by_cases hz : n = 8 * k
      · have htm : Int.tmod (n : Int) 8 = 0 := by rw [Int.tmod_eq_emod_of_nonneg (by omega)]; omega
        have HZ := Lib.hid hz
        have HH := Lib.hid h8
        clear hz h8
        go_wp2_with fail
        refine bodyPost_ret (v := .tuple #[.slice av k ac, .int .i64 0, .int .i64 0]) ?_ rfl ?_
        · simp [results, Tryd.f21, go_sem]
        refine ⟨HC.out, .inr (.inr ⟨by rw [← HKz.out]; exact HZ.out, _, rfl, ?_⟩)⟩
        rw [← HKz.out]; exact HR.out
      · obtain ⟨r, hr⟩ : ∃ r : Int, Int.tmod (n : Int) 8 = r := ⟨_, rfl⟩
        have hr2 : 0 < r ∧ r < 8 := by rw [Int.tmod_eq_emod_of_nonneg (by omega)] at hr; have := HM.out; have := HKz.out; omega
        have hr1 : IntKind.i64.wrap r = r := by rw [IntKind.wrap_i64]; omega
        have hr0 : 0 < r := hr2.1
        have HZ := Lib.hid hz
        have HH := Lib.hid h8
        clear hz h8 hr2
        go_wp2_with fail
        refine bodyPost_ret (v := .tuple #[.slice none 0 0, .int .i64 (k : Int), .int .i64 10]) ?_ rfl ?_
        · simp [results, Tryd.f21, go_sem]
        exact ⟨HC.out, .inr (.inl ⟨by rw [← HKz.out]; have := HH.out; omega, by rw [← HKz.out]; exact HZ.out, by rw [← HKz.out]⟩)⟩
end Go.Proofs.YtgldkalagmjkfaaDoor
