/-
  Contracts: With, Of, Without (a slice of numbers that is read).
-/
import Derived.Test.YtadogffllkompaaDoorMaskB
import Derived.LoopTactic
import Derived.OwnWalk
import Derived.Handy
namespace Go.Proofs.YtadogffllkompaaDoor.Mk
open Go.RowKit

/-- A mask with these numbers. -/
def withN (m : Nat) (zs : List Int) : Nat := zs.foldl (fun m i => m ||| bitv i) m

theorem withN_lt (m : Nat) (zs : List Int) (hm : m < 18446744073709551616) : withN m zs < 18446744073709551616 := by
  unfold withN
  induction zs generalizing m with
  | nil => exact hm
  | cons z zs ih => exact ih _ (Nat.or_lt_two_pow (n := 64) hm (bitv_lt z))

theorem withN_snoc (m : Nat) (zs : List Int) (k : Nat) (h : k < zs.length) : withN m (zs.take (k + 1)) = withN m (zs.take k) ||| bitv (zs[k]?.getD 0) := by
  unfold withN
  rw [List.take_succ_eq_append_getElem h, List.foldl_append]
  simp [h]

/-- A slice of numbers that is read: its elements are zs. -/
def IntsAt (w : World) (a : Option Addr) (zs : List Int) : Prop :=
  zs = [] ∨ ∃ b off, a = some ⟨b, off, none⟩ ∧ ∀ i, i < zs.length → w.cell? ⟨b, off + i, none⟩ = some (.int .i64 (zs[i]?.getD 0))

set_option maxHeartbeats 400000 in
theorem with_any (m : Nat) (hm : m < 18446744073709551616) (a : Option Addr) (cap : Nat) (zs : List Int) (w : World) (hl : zs.length ≤ 9223372036854775807) (hz : IntsAt w a zs) :
    Calls Tryd.prog 28 #[.int .u64 (m : Int), .slice a zs.length cap] w fun e w' => e = .returned (.int .u64 ((withN m zs : Nat) : Int)) ∧ w = w' := by
  obtain ⟨n, hn⟩ : ∃ n, n = zs.length := ⟨_, rfl⟩
  rw [← hn] at hl ⊢
  have HM := Lib.hid hm
  have HN := Lib.hid hn
  have HZ := Lib.hid hz
  clear hm hn hz
  go_enter Tryd.func28, Tryd.ntmps28
  go_wp2
  go_loop [0, 9] (fun m' i => ∃ k : Nat, k ≤ n ∧ i = .int .i64 k ∧ m' = .int .u64 ((withN m (zs.take k) : Nat) : Int)) (fun _ i => n - (intOf i).toNat)
  case atStart => exact ⟨0, Nat.zero_le _, rfl, rfl⟩
  case round =>
    obtain ⟨k, hk, rfl, rfl⟩ := hrel
    by_cases hlt : k < n
    · rcases HZ.out with h0 | ⟨b, off, rfl, hc⟩
      · exfalso; rw [HN.out, h0] at hlt; simp at hlt
      · have hc := hc k (by rw [← HN.out]; exact hlt)
        have HB := Lib.hid (withN_lt m (zs.take k) HM.out)
        go_wp2_with (go_at_call 38; refine (bit_any _ _).mono ?_; rintro e w' ⟨rfl, rfl⟩)
        go_round
        case rel => exact ⟨k + 1, by omega, by go_num, by rw [withN_snoc m zs k (by rw [← HN.out]; exact hlt), u64_or_nat _ _ HB.out (bitv_lt _)]⟩
        case measure => simp [intOf]; omega
    · go_wp2
      go_ret
      exact ⟨by rw [List.take_of_length_le (by rw [← HN.out]; omega)]; rfl, rfl⟩
end Go.Proofs.YtadogffllkompaaDoor.Mk
