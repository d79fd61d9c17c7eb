/-
  Contracts of a ring of int: Push.
-/
import Derived.Test.YtkjkaihbpccdmaaRIC
namespace Go.Proofs.Ytkjkaihbpccdmaa.rI
open Go.RowKit

attribute [local go_sem] Oper.semAt_some

/-- The numbers that a slice at a reads as. -/
def IAt (w : World) (a : Option Addr) (zs : List Int) : Prop := zs = [] ∨ ∃ b off, a = some ⟨b, off, none⟩ ∧ ∀ i (h : i < zs.length), w.cell? ⟨b, off + i, none⟩ = some (.int .i64 zs[i])

theorem IAt.ch {w w' : World} {S : List Nat} {a : Option Addr} {zs : List Int} (h : IAt w a zs) (hc : Ch S w w') (hb : zs ≠ [] → ∀ x, a = some x → x.block ∉ S) : IAt w' a zs := by
  by_cases h0 : zs = []
  · exact .inl h0
  have hb := hb h0
  rcases h with rfl | ⟨b, off, rfl, h⟩
  · exact .inl rfl
  · exact .inr ⟨b, off, rfl, fun i hi => (hc.cell (p := ⟨b, off + i, none⟩) (cell_lt (h i hi)) (hb ⟨b, off, none⟩ rfl)).trans (h i hi)⟩

/-- What stands where, when the first n of these stand behind those that were held. -/
def pushTo (L : Nat → Int) (held : Nat) (zs : List Int) (n : Nat) : Nat → Int := fun j => if held ≤ j ∧ j < held + n then zs[j - held]?.getD 0 else L j
theorem push_start (L : Nat → Int) (held : Nat) (zs : List Int) : pushTo L held zs 0 = L := by
  funext j; unfold pushTo; rw [if_neg (by omega)]
theorem push_step (L : Nat → Int) (held : Nat) (zs : List Int) (k : Nat) : upd (pushTo L held zs k) (held + k) (zs[k]?.getD 0) = pushTo L held zs (k + 1) := by
  funext j
  unfold upd pushTo
  by_cases e : j = held + k
  · subst e; rw [if_pos rfl, if_pos (by omega)]; simp
  · rw [if_neg e]
    by_cases e2 : held ≤ j ∧ j < held + k
    · rw [if_pos e2, if_pos (by omega)]
    · rw [if_neg e2, if_neg (by omega)]

theorem RC.grow {w : World} {R G room first held : Nat} {L : Nat → Int} (h : RC w R G room first held L) (hr : held < room) :
    RC (w.setCell ⟨R, 2, none⟩ (.int .i64 ((held : Int) + 1))) R G room first (held + 1) L := by
  have hn : ∀ a b : Nat, (⟨R, a, none⟩ : Addr) ≠ ⟨G, b, none⟩ := fun a b => addr_ne_block h.ne
  exact ⟨h.ne, h.r1, h.r2, h.fr, by omega, setCell_other h.c0 (addr_ne_off (by decide)), setCell_other h.c1 (addr_ne_off (by decide)), setCell_same h.c2, by simpa using h.f1, by simpa using h.f2,
    fun j hj => setCell_other (h.cs j hj) (hn _ _), fun j hj => by simpa using h.fs j hj⟩

set_option maxHeartbeats 1000000 in
theorem push_any {w : World} {R G room first held : Nat} {L : Nat → Int} (h : RC w R G room first held L) (a : Option Addr) (cap : Nat) (zs : List Int) (hz : IAt w a zs) (hl : zs.length ≤ cap) (hc : cap ≤ 9223372036854775807)
    (hb : zs ≠ [] → ∀ x, a = some x → x.block ∉ [R, G]) (n : Nat) (hn : n = min zs.length (room - held)) :
    Calls Try.prog 10 #[.pointer (some ⟨R, 0, none⟩), .slice a zs.length cap] w fun e w' =>
      e = .returned (.int .i64 (n : Int)) ∧ RC w' R G room first (held + n) (pushTo L held zs n) ∧ Ch [R, G] w w' := by
  have hr := h.hr
  have r2 := h.r2
  have HR := Lib.hid h
  have HL := Lib.hid (len_any h)
  have HRo := Lib.hid (room_any h)
  have HZ := Lib.hid hz
  have HB := Lib.hid hb
  clear h hz hb
  have hcase : (zs.length ≤ room - held ∧ zs.length = n) ∨ (n < zs.length ∧ held + n = room ∧ (room : Int) - (held : Int) = (n : Int)) := by omega
  have HN := Lib.hid (show n ≤ zs.length ∧ held + n ≤ room by omega)
  clear hn
  rcases hcase with ⟨h1, h2⟩ | ⟨h1, h2, hsub⟩
  rw [h2] at hl h1 ⊢
  clear h2
  all_goals
    go_enter Try.func10, Try.ntmps10
    go_wp2_with (first | (go_at_call 15; refine HL.out.mono ?_; rintro e w' ⟨rfl, rfl⟩) | (go_at_call 16; refine HRo.out.mono ?_; rintro e w' ⟨rfl, rfl⟩))
    go_loopw [20] (fun x wr => ∃ k : Nat, k ≤ n ∧ x = .int .i64 (k : Int) ∧ RC wr R G room first (held + k) (pushTo L held zs k) ∧ Ch [R, G] w wr) (fun x _ => n - (intOf x).toNat)
    case atStart => exact ⟨0, Nat.zero_le _, rfl, by rw [push_start]; exact HR.out, Ch.refl _ _⟩
    case round =>
      obtain ⟨k, hk, rfl, hRC, hCh⟩ := hrel
      have HRC := Lib.hid hRC
      have HCh := Lib.hid hCh
      clear hRC hCh
      by_cases hlt : k < n
      · have hn := HN.out
        rcases HZ.out.ch HCh.out HB.out with h0 | ⟨b, off, rfl, hc0⟩
        · exfalso; rw [h0] at hn; simp at hn; omega
        · have hc := hc0 k (by omega)
          have HS := Lib.hid (push_step L held zs k)
          have hg : zs[k]?.getD 0 = zs[k] := by simp [show k < zs.length by omega]
          rw [← hg] at hc
          clear hg hc0
          generalize zs[k]?.getD 0 = z at hc HS
          have hgc := HRC.out.cs (held + k) (by omega)
          have hgf := HRC.out.fs (held + k) (by omega)
          have c2 := HRC.out.c2
          have f2 := HRC.out.f2
          have hsum : ((held + k : Nat) : Int) = (held : Int) + (k : Int) := by simp
          rw [hsum] at c2
          clear hsum
          have hGR : (⟨G, at' room first (held + k), none⟩ : Addr) ≠ ⟨R, 2, none⟩ := addr_ne_block (Ne.symm HRC.out.ne)
          have hcR : ∀ v, (wr.setCell ⟨G, at' room first (held + k), none⟩ v).cell? ⟨R, 2, none⟩ = some (.int .i64 ((held : Int) + (k : Int))) := fun v => setCell_other c2 hGR
          have hH := HN.out
          clear hn
          go_wp2_with fail
          refine (place_at HRC.out _ (held + k) (by omega) (by omega)).mono ?_
          rintro e w1 ⟨rfl, n1, rfl⟩
          go_wp2
          go_roundw
          case rel =>
            have A := (HRC.out.set (held + k) (by omega) z).grow (by omega)
            rw [HS.out] at A
            exact ⟨k + 1, by omega, by go_num, A.drewN n1, ((HCh.out.setCell (p := ⟨G, _, none⟩) (by simp) _).setCell (p := ⟨R, 2, none⟩) (by simp) _).drewN n1⟩
          case measure => simp [intOf]; omega
      · go_wp2
        go_ret
        obtain rfl : k = n := by omega
        exact ⟨rfl, HRC.out, HCh.out⟩

theorem push_nil (a : Option Addr) (len cap : Nat) (w : World) (hl : len ≤ cap) (_ : cap ≤ 9223372036854775807) :
    Calls Try.prog 10 #[.pointer none, .slice a len cap] w fun e w' => e = .returned (.int .i64 0) ∧ w = w' := by
  have h0 : (0 : Int) ≤ (len : Int) := by omega
  cases len with
  | zero =>
    go_enter Try.func10, Try.ntmps10
    go_wp2_with (first | (go_at_call 15; refine (len_nil _).mono ?_; rintro e w' ⟨rfl, rfl⟩) | (go_at_call 16; refine (room_nil _).mono ?_; rintro e w' ⟨rfl, rfl⟩))
    refine wp_loop_rounds 1 ?_
    rw [rounds_succ]
    go_wp2
    go_ret
    exact ⟨rfl, rfl⟩
  | succ n =>
    go_enter Try.func10, Try.ntmps10
    go_wp2_with (first | (go_at_call 15; refine (len_nil _).mono ?_; rintro e w' ⟨rfl, rfl⟩) | (go_at_call 16; refine (room_nil _).mono ?_; rintro e w' ⟨rfl, rfl⟩))
    refine wp_loop_rounds 1 ?_
    rw [rounds_succ]
    go_wp2
    go_ret
    exact ⟨rfl, rfl⟩
end Go.Proofs.Ytkjkaihbpccdmaa.rI
