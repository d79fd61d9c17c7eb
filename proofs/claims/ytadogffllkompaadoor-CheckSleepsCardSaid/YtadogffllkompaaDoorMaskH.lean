/-
  Contracts: Of, Without; the document's answer: Next, Around, List, Turn, Same.
-/
import Derived.Test.YtadogffllkompaaDoorMaskF
import Derived.StillTailTactics
namespace Go.Proofs.YtadogffllkompaaDoor.Mk
open Go.RowKit

theorem of_any (a : Option Addr) (cap : Nat) (zs : List Int) (w : World) (hl : zs.length ≤ 9223372036854775807) (hz : IntsAt w a zs) :
    Calls Tryd.prog 26 #[.slice a zs.length cap] w fun e w' => e = .returned (.int .u64 ((withN 0 zs : Nat) : Int)) ∧ w = w' := by
  have H := Lib.hid (with_any 0 (by decide) a cap zs w hl hz)
  clear hl hz
  go_enter Tryd.func26, Tryd.ntmps26
  go_wp2_with (go_at_call 28; refine H.out.mono ?_; rintro e w' ⟨rfl, rfl⟩)
  go_ret
  exact ⟨rfl, rfl⟩

/-- A mask without these numbers. -/
def withoutN (m : Nat) (zs : List Int) : Nat := m &&& (18446744073709551615 - withN 0 zs)
theorem withoutN_lt (m : Nat) (zs : List Int) (hm : m < 18446744073709551616) : withoutN m zs < 18446744073709551616 :=
  Nat.lt_of_le_of_lt Nat.and_le_left hm

theorem without_any (m : Nat) (hm : m < 18446744073709551616) (a : Option Addr) (cap : Nat) (zs : List Int) (w : World) (hl : zs.length ≤ 9223372036854775807) (hz : IntsAt w a zs) :
    Calls Tryd.prog 29 #[.int .u64 (m : Int), .slice a zs.length cap] w fun e w' => e = .returned (.int .u64 ((withoutN m zs : Nat) : Int)) ∧ w = w' := by
  have H := Lib.hid (of_any a cap zs w hl hz)
  have HV := Lib.hid (u64_andNot_nat m _ hm (withN_lt 0 zs (by decide)))
  clear hl hz hm
  go_enter Tryd.func29, Tryd.ntmps29
  go_wp2_with (go_at_call 26; refine H.out.mono ?_; rintro e w' ⟨rfl, rfl⟩)
  go_ret
  exact ⟨by show Ending.returned (Value.int .u64 (bits BinOp.andNot IntKind.u64 (m : Int) ((withN 0 zs : Nat) : Int))) = _; rw [HV.out]; rfl, rfl⟩

/-- The document's next one. -/
def refO (bs : List Bool) (from' : Int) : Option Nat := (List.range 64).find? fun i : Nat => decide (from' ≤ (i : Int)) && bs[i]?.getD false
def refV (bs : List Bool) (from' : Int) : Nat := (refO bs from').getD 0
def refB (bs : List Bool) (from' : Int) : Bool := (refO bs from').isSome

theorem refO_none (bs : List Bool) (from' : Int) (h : ∀ j : Nat, j < 64 → (decide (from' ≤ (j : Int)) && bs[j]?.getD false) = false) : refO bs from' = none := by
  unfold refO
  rw [List.find?_eq_none]
  intro x hx
  rw [h x (by simpa using hx)]
  simp
theorem refO_some (bs : List Bool) (from' : Int) (k : Nat) (hk : k < 64) (h : ∀ j : Nat, j < k → (decide (from' ≤ (j : Int)) && bs[j]?.getD false) = false) (hh : (decide (from' ≤ (k : Int)) && bs[k]?.getD false) = true) : refO bs from' = some k := by
  unfold refO
  have e : List.range 64 = List.range k ++ (k :: (List.range (63 - k)).map (k + 1 + ·)) := by
    have e1 : (64 : Nat) = k + ((63 - k) + 1) := by omega
    conv => lhs; rw [e1, List.range_add, List.range_succ_eq_map]
    simp [List.map_map, Function.comp_def]
    intro a _
    omega
  rw [e, List.find?_append]
  have e2 : (List.range k).find? (fun i : Nat => decide (from' ≤ (i : Int)) && bs[i]?.getD false) = none := by
    rw [List.find?_eq_none]; intro x hx; rw [h x (by simpa using hx)]; simp
  rw [e2]
  simp only [List.find?_cons, hh]
  rfl

def rarV (bs : List Bool) (from' : Int) : Nat := if refB bs from' = true then refV bs from' else refV bs 0
def rarB (bs : List Bool) (from' : Int) : Bool := if refB bs from' = true then true else refB bs 0

/-- The document's list. -/
def rlistTo (bs : List Bool) (k : Nat) : List Nat := (List.range k).filter fun i => bs[i]?.getD false
theorem rlistTo_yes (bs : List Bool) (k : Nat) (h : bs[k]?.getD false = true) : rlistTo bs (k + 1) = rlistTo bs k ++ [k] := by
  unfold rlistTo; rw [List.range_succ, List.filter_append]; simp [h]
theorem rlistTo_no (bs : List Bool) (k : Nat) (h : bs[k]?.getD false = false) : rlistTo bs (k + 1) = rlistTo bs k := by
  unfold rlistTo; rw [List.range_succ, List.filter_append]; simp [h]
theorem rlistTo_le (bs : List Bool) (k : Nat) : (rlistTo bs k).length ≤ k := by
  have := List.length_filter_le (fun i => bs[i]?.getD false) (List.range k)
  simpa [rlistTo] using this

/-- The document's turning: what stands at j comes from (j + k) mod 64. -/
def rturnTo (bs : List Bool) (k n : Nat) : List Bool := (List.range 64).map fun j => decide ((j + k) % 64 < n) && bs[(j + k) % 64]?.getD false
theorem rturnTo_zero (bs : List Bool) (k : Nat) : rturnTo bs k 0 = List.replicate 64 false := by
  apply List.ext_getElem (by simp [rturnTo])
  intro i h1 h2
  rw [List.getElem_replicate]
  simp [rturnTo]
theorem rturnTo_succ (bs : List Bool) (k n j : Nat) (hk : k < 64) (hn : n < 64) (hj : j = (n + 64 - k) % 64) : rturnTo bs k (n + 1) = (rturnTo bs k n).set j (bs[n]?.getD false) := by
  apply List.ext_getElem (by simp [rturnTo])
  intro i h1 h2
  have hi : i < 64 := by simpa [rturnTo] using h1
  rw [List.getElem_set]
  by_cases e : j = i
  · subst e
    have e2 : (j + k) % 64 = n := by omega
    simp [rturnTo, e2]
  · have e2 : (i + k) % 64 ≠ n := by omega
    have e3 : ((i + k) % 64 < n + 1) ↔ ((i + k) % 64 < n) := by omega
    simp [rturnTo, e, e3]

/-- What stands at j comes from (j + n) mod 64. -/
def rturnL (bs : List Bool) (n : Int) : List Bool := rturnTo bs (n % 64).toNat 64

set_option maxHeartbeats 1000000 in
theorem same_eq (a1 a2 : Option Addr) (cap1 cap2 : Nat) (zs : List Int) (w : World) (hl : zs.length ≤ 9223372036854775807) (h1 : IntsAt w a1 zs) (h2 : IntsAt w a2 zs) :
    Calls Tryd.prog 12 #[.slice a1 zs.length cap1, .slice a2 zs.length cap2] w fun e w' => e = .returned (.bool true) ∧ ∃ m, w' = w.drewN m := by
  obtain ⟨n, hn⟩ : ∃ n, n = zs.length := ⟨_, rfl⟩
  rw [← hn] at hl ⊢
  have HN := Lib.hid hn
  have H1 := Lib.hid h1
  have H2 := Lib.hid h2
  clear hn h1 h2
  go_enter Tryd.func12, Tryd.ntmps12
  go_wp2
  go_loopw [5] (fun i wr => ∃ k m : Nat, k ≤ n ∧ i = .int .i64 (k : Int) ∧ wr = w.drewN m) (fun i _ => n - (intOf i).toNat)
  case atStart => exact ⟨0, 0, by omega, rfl, rfl⟩
  case round =>
    obtain ⟨k, m, hk, rfl, rfl⟩ := hrel
    by_cases hlt : k < n
    · rcases H1.out with h0 | ⟨b, off, rfl, hc⟩
      · exfalso; rw [HN.out, h0] at hlt; simp at hlt
      · rcases H2.out with h0 | ⟨b2, off2, rfl, hc2⟩
        · exfalso; rw [HN.out, h0] at hlt; simp at hlt
        · have hc := hc k (by rw [← HN.out]; exact hlt)
          have hc2 := hc2 k (by rw [← HN.out]; exact hlt)
          generalize zs[k]?.getD 0 = z at hc hc2
          have hzz : (z != z) = false := by simp
          go_wp2
          go_quiet (fail)
          go_wp2
          go_roundw
          case rel => exact ⟨k + 1, _, by omega, by go_num, rfl⟩
          case measure => simp [intOf]; omega
    · go_wp2
      go_ret
      exact ⟨rfl, m, rfl⟩
end Go.Proofs.YtadogffllkompaaDoor.Mk
