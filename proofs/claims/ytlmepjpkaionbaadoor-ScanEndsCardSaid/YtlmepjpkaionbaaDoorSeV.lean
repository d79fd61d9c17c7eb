/-
  The document's answer for sections: Enter, Exit, In.
-/
import Derived.Test.YtlmepjpkaionbaaDoorSeS
namespace Go.Proofs.YtlmepjpkaionbaaDoor
open Go.RowKit

/-- What readers did, with one more. -/
def deedsIn (l : List (Nat × Bool)) (r : Int) : List (Nat × Bool) := if enterE (runS l) r = 0 then l ++ [(r.toNat, false)] else l
def deedsOut (l : List (Nat × Bool)) (r : Int) : List (Nat × Bool) := if exitE (runS l) r = 0 then l ++ [(r.toNat, true)] else l
theorem runS_in (l : List (Nat × Bool)) (r : Int) : runS (deedsIn l r) = enterS (runS l) r := by
  unfold deedsIn enterS
  split
  · rw [runS_snoc]; rfl
  · rfl
theorem runS_out (l : List (Nat × Bool)) (r : Int) : runS (deedsOut l r) = exitS (runS l) r := by
  unfold deedsOut exitS
  split
  · rw [runS_snoc]; rfl
  · rfl
theorem deedsIn_len (l : List (Nat × Bool)) (r : Int) : (deedsIn l r).length ≤ l.length + 1 := by
  unfold deedsIn; split <;> simp
theorem deedsOut_len (l : List (Nat × Bool)) (r : Int) : (deedsOut l r).length ≤ l.length + 1 := by
  unfold deedsOut; split <;> simp
theorem RD.snoc {w w' : World} {D B n : Nat} {m m' : Value} {l : List (Nat × Bool)} (h : RD w D m l) {k : Nat} {o : Bool} (hk : k < 64) (hn : n = l.length) (hB : D ≤ B) {R : List Value} (hR : R = dcl l) (hr : w'.ownsRow B 80 2 m' (n + 1) (R ++ [.int .i64 (k : Int), .bool o])) : RD w' D m' (l ++ [(k, o)]) := by
  subst hn hR
  refine ⟨?_, fun i a ha => ?_⟩
  · rw [dcl_snoc, List.length_append]
    exact own_mono hr hB
  · rcases get_snoc ha with ⟨_, h1⟩ | ⟨_, rfl⟩
    · exact h.ok i a h1
    · exact hk

set_option maxHeartbeats 1000000 in
theorem renter_any {w : World} {D : Nat} {m : Value} {l : List (Nat × Bool)} (h : RD w D m l) (hl : l.length ≤ 900) (hD : D ≤ w.heap.size) (r : Int) :
    Calls Tryd.prog 28 #[m, .int .i64 r] w fun e w' => ∃ m', e = .returned (.tuple #[m', .int .i64 (enterE (runS l) r)]) ∧ RD w' D m' (deedsIn l r) ∧ (m' = m ∨ ∀ k, m'.ownBlock = some k → w.heap.size ≤ k) ∧ Ch [] w w' := by
  obtain ⟨i0, hI, hz0, hz1, hz2⟩ := info_parts infoD
  by_cases hr : 0 ≤ r ∧ r < 64
  · obtain ⟨k, rfl⟩ : ∃ k : Nat, r = (k : Int) := ⟨r.toNat, by omega⟩
    have hk : k < 64 := by omega
    have hk0 : ¬ (k : Int) < 0 := by omega
    have hk1 : decide ((k : Int) > 63) = false := decide_eq_false (by omega)
    have HDp := Lib.hid (rdepth_any h (by omega) (k : Int))
    rw [dOf_nat _ hk] at HDp
    by_cases h8 : 8 ≤ (runS l).d k
    · have hE : enterE (runS l) (k : Int) = 3 := by unfold enterE; rw [if_pos hr, Int.toNat_natCast, if_pos h8]
      have hS : deedsIn l (k : Int) = l := by unfold deedsIn; rw [if_neg (by rw [hE]; decide)]
      rw [hE, hS]
      have hge : decide ((runS l).d k ≥ 8) = true := decide_eq_true h8
      obtain ⟨p, cap, rfl⟩ := h.form
      have HH := Lib.hid h
      generalize l.length = n at *
      generalize (runS l).d k = v at *
      clear h hr hE hS h8
      go_enter Tryd.func28, Tryd.ntmps28
      go_wp2_with fail
      with_reducible refine HDp.out.mono ?_
      rintro e w' ⟨rfl, rfl⟩
      go_wp2_with fail
      go_ret2
      exact ⟨_, rfl, HH.out, .inl rfl, Ch.refl _ _⟩
    · have hE : enterE (runS l) (k : Int) = 0 := by unfold enterE; rw [if_pos hr, Int.toNat_natCast, if_neg h8]
      have hS : deedsIn l (k : Int) = l ++ [(k, false)] := by unfold deedsIn; rw [if_pos hE]; rfl
      rw [hE, hS]
      have hge : decide ((runS l).d k ≥ 8) = false := decide_eq_false h8
      obtain ⟨p, cap, rfl⟩ := h.form
      have HH := Lib.hid h
      obtain ⟨n, hn⟩ : ∃ n, n = l.length := ⟨_, rfl⟩
      obtain ⟨R, hR⟩ : ∃ R, R = dcl l := ⟨_, rfl⟩
      have HOne := Lib.hid (dcl_one l)
      have HH := Lib.hid h
      have hrow := h.row
      rw [← hn, ← hR] at hrow
      rw [← hn] at HDp hl
      rw [← hn] at HH
      have HN := Lib.hid hn
      have HR := Lib.hid hR
      rw [← hR] at HOne
      have HRow := Lib.hid hrow
      rw [← hn]
      generalize (runS l).d k = v at *
      clear h hr hE hS h8 hn hR hrow
      go_enter Tryd.func28, Tryd.ntmps28
      go_wp2_with fail
      with_reducible refine HDp.out.mono ?_
      rintro e w' ⟨rfl, rfl⟩
      clear HDp
      go_wp2_with (at_builtin; go_must (refine wpList_append_row rfl _ _ 27 rfl w.heap.size 80 i0 (.agg #[.int .i64 0, .bool false]) 2 16 Tryd.underlying27 hI hz0 hz1 hz2 rfl (by decide) (.slice (some ⟨w.heap.size, 0, none⟩) 0 0) 0 [] rfl ?c0 ?c1 D (.slice p n cap) n R rfl ?c2 HOne.out ?c3 ?c4 ?c5 ?_))
      case c0 => exact World.ownsRow_lit w #[] 0 (Nat.le_refl _) (Nat.zero_le _) rfl
      case c1 => intro e; cases e
      case c2 => exact World.ownsRow.alloc HRow.out _
      case c3 => unfold maxLen; omega
      case c4 => omega
      case c5 => simp
      intro v1 w1 hown1 hgrow1 hne1
      have hc1 : Ch [] w w1 := ((Ch.refl [] w).alloc (.cells #[] 80)).kept hgrow1 (fun r e => by simp [Value.ownBlock] at e; omega)
      obtain ⟨g1, cp1, rfl⟩ := own_some hown1 hne1
      have hown2 : w1.ownsRow w.heap.size 80 2 (.slice (some ⟨g1, 0, none⟩) n cp1) n R := by simpa using hown1
      have hsz := hc1.size
      have HO := Lib.hid hown2
      have HC1 := Lib.hid hc1
      clear hown1 hgrow1 hne1 hc1 hown2
      go_wp2_with (at_builtin; go_must (refine wpList_append_own _ rfl _ _ 27 rfl w.heap.size 80 i0 (.agg #[.int .i64 0, .bool false]) 2 16 Tryd.underlying27 hI hz0 hz1 hz2 rfl (by decide) _ _ _ rfl (HO.out.alloc _) ⟨w1.heap.size, 0, none⟩ 1 1 [.int .i64 (k : Int), .bool false] rfl rfl (cell_two_new _ _ _ _) (by simp [Value.oneCell']) (by unfold maxLen; omega) (by omega) (by simp; omega) ?_); intro v2 w2 hown2 hgrow2 _)
      have hc2 : Ch [] w w2 := (HC1.out.alloc (.cells #[.int .i64 (k : Int), .bool false] 80)).kept hgrow2 (fun r e => (HO.out.lt r e).1)
      obtain ⟨p2, cp2, rfl⟩ := own_form hown2
      have HO2 := Lib.hid hown2
      have HC2 := Lib.hid hc2
      clear hgrow2 hc2 hown2 HO HC1 hsz
      go_wp2_with fail
      go_ret2
      exact ⟨_, rfl, HH.out.snoc hk HN.out hD HR.out HO2.out, .inr fun k e => (HO2.out.lt k e).1, HC2.out⟩
  · have hE : enterE (runS l) r = 2 := by unfold enterE; rw [if_neg hr]
    have hS : deedsIn l r = l := by unfold deedsIn; rw [if_neg (by rw [hE]; decide)]
    rw [hE, hS]
    obtain ⟨p, cap, rfl⟩ := h.form
    have HH := Lib.hid h
    generalize l.length = n at *
    clear h hE hS
    by_cases h0 : r < 0
    · clear hr
      go_enter Tryd.func28, Tryd.ntmps28
      go_wp2_with fail
      go_ret2
      exact ⟨_, rfl, HH.out, .inl rfl, Ch.refl _ _⟩
    · have h1 : decide (r > 63) = true := decide_eq_true (by omega)
      clear hr
      go_enter Tryd.func28, Tryd.ntmps28
      go_wp2_with fail
      go_ret2
      exact ⟨_, rfl, HH.out, .inl rfl, Ch.refl _ _⟩

set_option maxHeartbeats 1000000 in
theorem rexit_any {w : World} {D : Nat} {m : Value} {l : List (Nat × Bool)} (h : RD w D m l) (hl : l.length ≤ 900) (hD : D ≤ w.heap.size) (r : Int) :
    Calls Tryd.prog 27 #[m, .int .i64 r] w fun e w' => ∃ m', e = .returned (.tuple #[m', .bool (exitB (runS l) r), .int .i64 (exitE (runS l) r)]) ∧ RD w' D m' (deedsOut l r) ∧ (m' = m ∨ ∀ k, m'.ownBlock = some k → w.heap.size ≤ k) ∧ Ch [] w w' := by
  obtain ⟨i0, hI, hz0, hz1, hz2⟩ := info_parts infoD
  by_cases hr : 0 ≤ r ∧ r < 64
  · obtain ⟨k, rfl⟩ : ∃ k : Nat, r = (k : Int) := ⟨r.toNat, by omega⟩
    have hk : k < 64 := by omega
    have hk0 : ¬ (k : Int) < 0 := by omega
    have hk1 : decide ((k : Int) > 63) = false := decide_eq_false (by omega)
    have HDp := Lib.hid (rdepth_any h (by omega) (k : Int))
    rw [dOf_nat _ hk] at HDp
    by_cases h0 : (runS l).d k = 0
    · have hE : exitE (runS l) (k : Int) = 6 := by unfold exitE; rw [if_pos hr, Int.toNat_natCast, if_pos h0]
      have hS : deedsOut l (k : Int) = l := by unfold deedsOut; rw [if_neg (by rw [hE]; decide)]
      have hB : exitB (runS l) (k : Int) = false := by unfold exitB; rw [hE]; rfl
      rw [hE, hS, hB]
      rw [h0] at HDp
      obtain ⟨p, cap, rfl⟩ := h.form
      have HH := Lib.hid h
      generalize l.length = n at *
      clear h hr hE hS h0 hB
      go_enter Tryd.func27, Tryd.ntmps27
      go_wp2_with fail
      with_reducible refine HDp.out.mono ?_
      rintro e w' ⟨rfl, rfl⟩
      go_wp2_with fail
      go_ret3
      exact ⟨_, rfl, HH.out, .inl rfl, Ch.refl _ _⟩
    · have hE : exitE (runS l) (k : Int) = 0 := by unfold exitE; rw [if_pos hr, Int.toNat_natCast, if_neg h0]
      have hS : deedsOut l (k : Int) = l ++ [(k, true)] := by unfold deedsOut; rw [if_pos hE]; rfl
      have hB : exitB (runS l) (k : Int) = ((runS l).d k == 1) := by unfold exitB; rw [hE, Int.toNat_natCast]; rfl
      rw [hE, hS, hB]
      have hne : ((runS l).d k == 0) = false := by simpa using h0
      obtain ⟨p, cap, rfl⟩ := h.form
      obtain ⟨n, hn⟩ : ∃ n, n = l.length := ⟨_, rfl⟩
      obtain ⟨R, hR⟩ : ∃ R, R = dcl l := ⟨_, rfl⟩
      have HOne := Lib.hid (dcl_one l)
      have HH := Lib.hid h
      have hrow := h.row
      rw [← hn, ← hR] at hrow
      rw [← hn] at HDp hl
      rw [← hn] at HH
      have HN := Lib.hid hn
      have HR := Lib.hid hR
      rw [← hR] at HOne
      have HRow := Lib.hid hrow
      rw [← hn]
      generalize (runS l).d k = v at *
      clear h hr hE hS h0 hn hR hrow hB
      go_enter Tryd.func27, Tryd.ntmps27
      go_wp2_with fail
      with_reducible refine HDp.out.mono ?_
      rintro e w' ⟨rfl, rfl⟩
      clear HDp
      go_wp2_with (at_builtin; go_must (refine wpList_append_row rfl _ _ 27 rfl w.heap.size 80 i0 (.agg #[.int .i64 0, .bool false]) 2 16 Tryd.underlying27 hI hz0 hz1 hz2 rfl (by decide) (.slice (some ⟨w.heap.size, 0, none⟩) 0 0) 0 [] rfl ?c0 ?c1 D (.slice p n cap) n R rfl ?c2 HOne.out ?c3 ?c4 ?c5 ?_))
      case c0 => exact World.ownsRow_lit w #[] 0 (Nat.le_refl _) (Nat.zero_le _) rfl
      case c1 => intro e; cases e
      case c2 => exact World.ownsRow.alloc HRow.out _
      case c3 => unfold maxLen; omega
      case c4 => omega
      case c5 => simp
      intro v1 w1 hown1 hgrow1 hne1
      have hc1 : Ch [] w w1 := ((Ch.refl [] w).alloc (.cells #[] 80)).kept hgrow1 (fun r e => by simp [Value.ownBlock] at e; omega)
      obtain ⟨g1, cp1, rfl⟩ := own_some hown1 hne1
      have hown2 : w1.ownsRow w.heap.size 80 2 (.slice (some ⟨g1, 0, none⟩) n cp1) n R := by simpa using hown1
      have hsz := hc1.size
      have HO := Lib.hid hown2
      have HC1 := Lib.hid hc1
      clear hown1 hgrow1 hne1 hc1 hown2
      go_wp2_with (at_builtin; go_must (refine wpList_append_own _ rfl _ _ 27 rfl w.heap.size 80 i0 (.agg #[.int .i64 0, .bool false]) 2 16 Tryd.underlying27 hI hz0 hz1 hz2 rfl (by decide) _ _ _ rfl (HO.out.alloc _) ⟨w1.heap.size, 0, none⟩ 1 1 [.int .i64 (k : Int), .bool true] rfl rfl (cell_two_new _ _ _ _) (by simp [Value.oneCell']) (by unfold maxLen; omega) (by omega) (by simp; omega) ?_); intro v2 w2 hown2 hgrow2 _)
      have hc2 : Ch [] w w2 := (HC1.out.alloc (.cells #[.int .i64 (k : Int), .bool true] 80)).kept hgrow2 (fun r e => (HO.out.lt r e).1)
      obtain ⟨p2, cp2, rfl⟩ := own_form hown2
      have HO2 := Lib.hid hown2
      have HC2 := Lib.hid hc2
      clear hgrow2 hc2 hown2 HO HC1 hsz
      go_wp2_with fail
      go_ret3
      exact ⟨_, rfl, HH.out.snoc hk HN.out hD HR.out HO2.out, .inr fun k e => (HO2.out.lt k e).1, HC2.out⟩
  · have hE : exitE (runS l) r = 2 := by unfold exitE; rw [if_neg hr]
    have hS : deedsOut l r = l := by unfold deedsOut; rw [if_neg (by rw [hE]; decide)]
    have hB : exitB (runS l) r = false := by unfold exitB; rw [hE]; rfl
    rw [hE, hS, hB]
    obtain ⟨p, cap, rfl⟩ := h.form
    have HH := Lib.hid h
    generalize l.length = n at *
    clear h hE hS hB
    by_cases h0 : r < 0
    · clear hr
      go_enter Tryd.func27, Tryd.ntmps27
      go_wp2_with fail
      go_ret3
      exact ⟨_, rfl, HH.out, .inl rfl, Ch.refl _ _⟩
    · have h1 : decide (r > 63) = true := decide_eq_true (by omega)
      clear hr
      go_enter Tryd.func27, Tryd.ntmps27
      go_wp2_with fail
      go_ret3
      exact ⟨_, rfl, HH.out, .inl rfl, Ch.refl _ _⟩

theorem u64_twice {M j : Nat} (h : M < 2 ^ j) (hj : j < 64) : IntKind.u64.wrap ((M : Int) * 2) = ((M * 2 : Nat) : Int) ∧ IntKind.u64.wrap (((M * 2 : Nat) : Int) + 1) = ((M * 2 + 1 : Nat) : Int) := by
  have h2 : (2 : Nat) ^ j ≤ 2 ^ 63 := Nat.pow_le_pow_right (by decide) (by omega)
  have h3 : (2 : Nat) ^ 63 = 9223372036854775808 := by decide
  rw [h3] at h2
  rw [IntKind.wrap_u64, IntKind.wrap_u64]
  omega

end Go.Proofs.YtlmepjpkaionbaaDoor
