/-
  Add.
-/
import Derived.Test.YtnnliimjemmekaaCaA
namespace Go.Proofs.Ytnnliimjemmekaa
open Go.RowKit Go.Shelf
open rC (Th RL flat tv)

attribute [local go_sem] Oper.semAt_some

/-- A slice of numbers. -/
def IntsAt (w : World) (a : Option Addr) (zs : List Int) : Prop := zs = [] ∨ ∃ b off, a = some ⟨b, off, none⟩ ∧ ∀ i, i < zs.length → w.cell? ⟨b, off + i, none⟩ = some (.int .i64 (zs[i]?.getD 0))
/-- A callback that has no generation yet. -/
def fresh (z : Int) : Th := (z, 0)
theorem fresh_take (l : List Th) (zs : List Int) (k : Nat) (h : l.length + k ≤ 64) (hz : l.length + k = 64 ∨ zs.length ≤ k) : (l ++ zs.map fresh).take 64 = l ++ (zs.take k).map fresh := by
  rw [List.take_append, List.take_of_length_le (by omega), ← List.map_take]
  rcases hz with hz | hz
  · rw [show 64 - l.length = k by omega]
  · rw [List.take_of_length_le (by omega), List.take_of_length_le hz]

section
variable {w : World} {base top A G n : Nat} {last : Int} {R Q : Nat → Nat} {f : Nat → List Th}
set_option maxHeartbeats 1000000 in
theorem add_in (h : CL w base top A G n last R Q f) {c : Nat} (hc : c < n) {a : Option Addr} {cap : Nat} {zs : List Int} (hz : IntsAt w a zs) (hl : zs.length ≤ cap) (_ : cap ≤ 9223372036854775807) (hb : zs ≠ [] → ∀ x, a = some x → ¬ Own base top x.block) :
    Calls Try.prog 9 #[.pointer (some ⟨A, 0, none⟩), .int .i64 (c : Int), .slice a zs.length cap] w fun e w' =>
      e = .returned (.int .i64 (if 64 < (f c).length + zs.length then 3 else 0)) ∧ CL w' base top A G n last R Q (updF f c ((f c ++ zs.map fresh).take 64)) ∧ ChP (Own base top) w w' := by
  have HH := Lib.hid (has_in h hc)
  have HC := Lib.hid h
  have HZ := Lib.hid hz
  have HB := Lib.hid hb
  have hle := (h.ring c hc).le.1
  have hlt : (c : Int) < (n : Int) := by omega
  have HD := Lib.hid hc
  obtain ⟨m, hm⟩ : ∃ m, m = zs.length := ⟨_, rfl⟩
  have HM := Lib.hid hm
  rw [← hm] at hl ⊢
  obtain ⟨E, hE⟩ : ∃ E : Int, E = if 64 < (f c).length + m then 3 else 0 := ⟨_, rfl⟩
  have HE := Lib.hid hE
  rw [← hE]
  clear h hc hz hb hm hE
  go_enter Try.func9, Try.ntmps9
  go_wp2_with (first | (go_at_call 23; with_reducible refine HH.out.mono ?_; rintro e w' ⟨rfl, rfl⟩) | fail)
  go_loopw [17] (fun r wr => ∃ k : Nat, k ≤ m ∧ (f c).length + k ≤ 64 ∧ r = .int .i64 (k : Int) ∧ CL wr base top A G n last R Q (updF f c (f c ++ (zs.take k).map fresh)) ∧ ChP (Own base top) w wr) (fun r _ => m - (intOf r).toNat)
  case atStart => exact ⟨0, Nat.zero_le _, by omega, rfl, by simpa [updF_id] using HC.out, ChP.refl _ _⟩
  case round =>
    obtain ⟨k, hk, hk64, rfl, hCk, hPk⟩ := hrel
    have HCk := Lib.hid hCk
    have HPk := Lib.hid hPk
    by_cases hkm : k < m
    · have hkz : k < zs.length := by rw [← HM.out]; exact hkm
      obtain ⟨z, hzk⟩ : ∃ z, z = zs[k]?.getD 0 := ⟨_, rfl⟩
      obtain ⟨b, off, rfl, hcell⟩ : ∃ b off, a = some ⟨b, off, none⟩ ∧ wr.cell? ⟨b, off + k, none⟩ = some (.int .i64 z) := by
        rcases HZ.out with e | ⟨b, off, e, hcs⟩
        · rw [e] at hkz; simp at hkz
        · have h1 := hcs k hkz
          rw [← hzk] at h1
          refine ⟨b, off, e, (hPk.cell (p := ⟨b, off + k, none⟩) (cell_lt h1) (show ¬ Own base top b from HB.out (fun e => by rw [e] at hkz; simp at hkz) ⟨b, off, none⟩ e)).trans h1⟩
      have c0 := hCk.c0
      have cr := hCk.row c HD.out
      have hring := hCk.ring c HD.out
      rw [updF_same] at hring
      have hlen : (f c ++ (zs.take k).map fresh).length = (f c).length + k := by simp; omega
      have HT := Lib.hid (show f c ++ (zs.take (k + 1)).map fresh = f c ++ (zs.take k).map fresh ++ [fresh z] by
        rw [List.take_succ_eq_append_getElem hkz, List.map_append, ← List.append_assoc]; simp only [List.map_cons, List.map_nil]; rw [hzk, List.getElem?_eq_getElem hkz]; rfl)
      have HR := Lib.hid hring
      have HL := Lib.hid hlen
      obtain ⟨ys, hys⟩ : ∃ ys, ys = f c ++ (zs.take k).map fresh := ⟨_, rfl⟩
      have HY := Lib.hid hys
      rw [← hys] at HR HL HT HCk
      have hRl := hring.lt
      have hcap' : (k : Int) < (m : Int) := by omega
      clear hCk hPk hring hlen hzk hys hkz
      by_cases hful : (f c).length + k < 64
      · have HP := Lib.hid (rC.push_l1 (HR.out.ch ((Ch.refl [] wr).alloc (.cells #[.int .i64 z, .int .i64 0] 51)) (by simp) (by simp)) (by rw [HL.out]; exact hful) wr.heap.size (fresh z) (by omega) (by omega) (Box2.new wr (.int .i64 z) (.int .i64 0) 51))
        go_wp2_with fail
        with_reducible refine HP.out.mono ?_
        rintro e w3 ⟨rfl, hr3, hc3⟩
        have HR3 := Lib.hid hr3
        have HC3 := Lib.hid hc3
        clear hr3 hc3
        go_frame
        go_wp2
        go_roundw
        case rel =>
          have hch := ((Ch.refl [R c, Q c] wr).alloc (.cells #[.int .i64 z, .int .i64 0] 51)).trans HC3.out
          refine ⟨k + 1, by omega, by omega, by go_num, ?_, HPk.out.trans (HC.out.own HD.out hch)⟩
          rw [HT.out, ← updF_twice f c ys]
          exact HCk.out.step HD.out HR3.out hch
        case measure => simp [intOf]; omega
      · have HP := Lib.hid (rC.push_l0 (HR.out.ch ((Ch.refl [] wr).alloc (.cells #[.int .i64 z, .int .i64 0] 51)) (by simp) (by simp)) (by rw [HL.out]; omega) wr.heap.size)
        go_wp2_with fail
        with_reducible refine HP.out.mono ?_
        rintro e w3 ⟨rfl, rfl⟩
        go_frame
        go_wp2
        go_ret
        have e3 : E = 3 := by rw [HE.out, if_pos (by omega)]
        refine ⟨by rw [e3]; rfl, ?_, HPk.out.alloc _⟩
        rw [fresh_take (f c) zs k (by omega) (.inl (by omega)), ← HY.out]
        exact HCk.out.quiet ((Ch.refl [] wr).alloc _)
    · have hkm' : ¬ (k : Int) < (m : Int) := by omega
      clear hCk hPk
      go_wp2
      go_ret
      obtain rfl : k = m := by omega
      have e3 : E = 0 := by rw [HE.out, if_neg (by omega)]
      refine ⟨by rw [e3]; rfl, ?_, HPk.out⟩
      rw [fresh_take (f c) zs k (by omega) (.inr (by rw [← HM.out]; exact Nat.le_refl _))]
      exact HCk.out
theorem add_out (h : CL w base top A G n last R Q f) {i : Int} (hi : i < 0 ∨ (n : Int) ≤ i) (v : Value) :
    Calls Try.prog 9 #[.pointer (some ⟨A, 0, none⟩), .int .i64 i, v] w fun e w' => e = .returned (.int .i64 2) ∧ w = w' := by
  have HH := Lib.hid (has_out h hi)
  clear h hi
  go_enter Try.func9, Try.ntmps9
  go_wp2_with (with_reducible refine HH.out.mono ?_; rintro e w' ⟨rfl, rfl⟩)
  go_ret
  exact ⟨rfl, rfl⟩
theorem add_nil (i : Int) (v : Value) (w : World) :
    Calls Try.prog 9 #[.pointer none, .int .i64 i, v] w fun e w' => e = .returned (.int .i64 6) ∧ w = w' := by
  go_enter Try.func9, Try.ntmps9
  go_wp2
  go_ret
  exact ⟨rfl, rfl⟩
end
end Go.Proofs.Ytnnliimjemmekaa
