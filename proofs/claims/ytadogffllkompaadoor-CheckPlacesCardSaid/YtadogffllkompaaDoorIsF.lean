/-
  The document's Kind at every number, uses, Check.
-/
import Derived.Test.YtadogffllkompaaDoorIsE
import Derived.Laws.Strings
import Derived.Laws.Strings2
namespace Go.Proofs.YtadogffllkompaaDoor
open Go.RowKit

theorem kind_any (op : Int) (w : World) : Calls Tryd.prog 43 #[.int .i64 op] w fun e w' => e = .returned (kindR op) ∧ Ch [] w w' := by
  rcases Int.lt_or_le op 0 with h | h
  · exact kind_g h w
  · rcases Int.lt_or_le 73 op with h' | h'
    · exact kind_h (by omega) w
    · obtain ⟨k, rfl⟩ : ∃ k : Nat, op = (k : Int) := ⟨op.toNat, by omega⟩
      by_cases ha : k < 12
      · exact kind_a ha w
      · by_cases hb : 16 ≤ k ∧ k < 28
        · exact kind_b (k := k - 16) (by omega) (by omega) w
        · by_cases hc : 33 ≤ k ∧ k < 42
          · exact kind_c (k := k - 33) (by omega) (by omega) w
          · by_cases hd : 49 ≤ k ∧ k < 58
            · exact kind_d (k := k - 49) (by omega) (by omega) w
            · by_cases hz : cls (k : Int) = 0
              · rcases (show (13 ≤ k ∧ k < 16) ∨ (28 ≤ k ∧ k < 33) ∨ (42 ≤ k ∧ k < 49) ∨ (58 ≤ k ∧ k < 74) by
                  have : k ≠ 12 := by rintro rfl; exact absurd hz (by decide)
                  omega) with e | e | e | e
                · exact gap_a (by omega) (by omega) hz w
                · exact gap_b (by omega) (by omega) hz w
                · exact gap_c (by omega) (by omega) hz w
                · exact gap_d (by omega) (by omega) hz w
              · have hsp : k = 12 ∨ k = 32 ∨ (64 ≤ k ∧ k ≤ 67) ∨ k = 72 ∨ k = 73 := by
                  unfold cls at hz; repeat' split at hz
                  all_goals omega
                by_cases hl : k ≤ 65
                · exact kind_e (by omega) w
                · exact kind_f (by omega) w


theorem has_all {l : List UInt8} {c : UInt8} (h : ∀ k (hk : k < l.length), l[k] ≠ c) : has l c = false := by
  unfold has
  rw [Bool.eq_false_iff]
  intro e
  obtain ⟨k, hk, e2⟩ := List.mem_iff_getElem.1 (show c ∈ l by simpa using e)
  exact h k hk e2
theorem has_at {l : List UInt8} {c : UInt8} {k : Nat} (hk : k < l.length) (h : l[k] = c) : has l c = true := by
  unfold has
  have : c ∈ l := List.mem_iff_getElem.2 ⟨k, hk, h⟩
  simpa using this
theorem uses_any (l : List UInt8) (c : UInt8) (hl : l.length < 1000) (w : World) :
    Calls Tryd.prog 46 #[.string ⟨l.toArray⟩, .int .u8 (c.toNat : Int)] w fun e w' => e = .returned (.bool (has l c)) ∧ w' = w := by
  go_enter Tryd.func46, Tryd.ntmps46
  go_wp2_with fail
  go_loopw [5] (fun i wr => ∃ j : Nat, j ≤ l.length ∧ (∀ k (hk : k < l.length), k < j → l[k] ≠ c) ∧ i = .int .i64 (j : Int) ∧ wr = w) (fun i _ => l.length - (intOf i).toNat)
  case atStart => exact ⟨0, Nat.zero_le _, fun k _ hk => absurd hk (by omega), rfl, rfl⟩
  case round =>
    obtain ⟨j, hj, hall, rfl, rfl⟩ := hrel
    have HA := Lib.hid hall
    clear hall
    by_cases hlt : j < l.length
    · have hbyte : ∀ h, (⟨l.toArray⟩ : ByteArray)[j]'h = l[j] := fun _ => rfl
      by_cases he : l[j] = c
      · have hq : ((l[j].toNat : Int) == (c.toNat : Int)) = true := by rw [he]; simp
        have HH := Lib.hid (has_at hlt he)
        clear he
        go_wp2_with fail
        go_ret
        exact ⟨by rw [HH.out]; rfl, rfl⟩
      · have hq : ((l[j].toNat : Int) == (c.toNat : Int)) = false := by
          rw [beq_eq_false_iff_ne]
          intro e
          exact he (UInt8.toNat.inj (by omega))
        have HN := Lib.hid he
        clear he
        go_wp2_with fail
        go_roundw
        case rel => exact ⟨j + 1, by omega, fun k hk hk2 => by
          by_cases e : k = j
          · subst e; exact HN.out
          · exact HA.out k hk (by omega), by go_num, by trivial⟩
        case measure => simp [intOf]; omega
    · obtain rfl : j = l.length := by omega
      have HH := Lib.hid (has_all fun k hk => HA.out k hk hk)
      clear hlt hj
      go_wp2_with fail
      go_ret
      exact ⟨by rw [HH.out]; rfl, rfl⟩
end Go.Proofs.YtadogffllkompaaDoor
