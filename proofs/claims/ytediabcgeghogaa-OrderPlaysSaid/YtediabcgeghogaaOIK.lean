/-
  An order of keys of int of a law's own.
-/
import Derived.Test.YtediabcgeghogaaOID
import Derived.Test.YtediabcgeghogaaOIG
namespace Go.Proofs.Ytediabcgeghogaa.oI
open Go.RowKit

/-- An order that was made since w0: its map in block S, its struct in the next; N: as many touches there were at most. -/
structure OL (w0 w : World) (S room N : Nat) (L : List K) : Prop where
  ent : ∃ E n, ks E = L ∧ n ≤ N ∧ OR w (S + 1) S room n E
  ch : Ch [] w0 w
  lo : w0.heap.size ≤ S
section
variable {w0 w w' : World} {S room N : Nat} {L : List K}
theorem OL.quiet (h : OL w0 w S room N L) (hc : Ch [] w w') : OL w0 w' S room N L := by
  obtain ⟨⟨E, n, e1, e2, ho⟩, h2, h3⟩ := h
  exact ⟨⟨E, n, e1, e2, ho.quiet hc⟩, h2.trans hc, h3⟩
theorem OL.away (h : OL w0 w S room N L) {T : List Nat} (hc : Ch T w w') (h1 : S ∉ T) (h2 : S + 1 ∉ T) (h3 : ∀ k ∈ T, w0.heap.size ≤ k) : OL w0 w' S room N L := by
  obtain ⟨⟨E, n, e1, e2, ho⟩, g2, g3⟩ := h
  exact ⟨⟨E, n, e1, e2, ho.ch hc h2 h1⟩, g2.fresh hc h3, g3⟩
theorem OL.og (h : OL w0 w S room N L) : ∃ E, ks E = L ∧ OG w (some ⟨S + 1, 0, none⟩) E := by
  obtain ⟨⟨E, n, e1, e2, ho⟩, h2, h3⟩ := h
  exact ⟨E, e1, .inr ⟨S + 1, S, room, n, rfl, ho⟩⟩
theorem OL.lt (h : OL w0 w S room N L) : S + 1 < w.heap.size := by
  obtain ⟨⟨E, n, e1, e2, ho⟩, h2, h3⟩ := h
  exact ho.lt.1
theorem OL.le (h : OL w0 w S room N L) : L.length ≤ room ∧ 1 ≤ room ∧ room ≤ 64 := by
  obtain ⟨⟨E, n, e1, e2, ho⟩, h2, h3⟩ := h
  exact ⟨by rw [← e1, ks_len]; exact ho.hl, ho.hr.1, ho.hr.2⟩
theorem OL.nodup (h : OL w0 w S room N L) : L.Nodup := by
  obtain ⟨⟨E, n, e1, e2, ho⟩, h2, h3⟩ := h
  obtain ⟨D, _, hv⟩ := ho.own
  rw [← e1]
  exact hv.nd

theorem ol_new (room : Nat) (w0 w : World) (S : Nat) (hS : w.heap.size = S) (hc : Ch [] w0 w) (h1 : 1 ≤ room) (h2 : room ≤ 64) :
    Calls Try.prog 7 #[.int .i64 (room : Int)] w fun r w' => r = .returned (.tuple #[.pointer (some ⟨S + 1, 0, none⟩), .int .i64 0]) ∧ OL w0 w' S room 0 [] ∧ Ch [] w w' ∧ w'.heap.size = S + 2 := by
  refine (new_ok room w S hS h1 h2).mono ?_
  rintro e w' ⟨rfl, ho, hc2, hz⟩
  exact ⟨rfl, ⟨⟨[], 0, rfl, Nat.le_refl _, ho⟩, hc.trans hc2, by rw [← hS]; exact hc.size⟩, hc2, hz⟩

theorem OL.touch (h : OL w0 w S room N L) (a : Option Addr) (cap : Nat) (zs : List K) (hz : KAt w a zs) (hn : NotIn a zs [S + 1, S]) (hwf : ∀ k ∈ zs, wfK k) (hl : N + zs.length ≤ 9223372036854775807) {X : List K} {e : Int} (hX : (tchs room L zs).1 = X) (he : (((tchs room L zs).2 : Nat) : Int) = e) :
    Calls Try.prog 12 #[.pointer (some ⟨S + 1, 0, none⟩), .slice a zs.length cap] w fun r w' => r = .returned (.int .i64 e) ∧ OL w0 w' S room (N + zs.length) X ∧ Ch [S + 1, S] w w' := by
  obtain ⟨⟨E, n, rfl, e2, ho⟩, h2, h3⟩ := h
  refine (touch_any ho a cap zs hz hn hwf (by omega)).mono ?_
  rintro r w' ⟨n', L', rfl, e3, e4, ho', hc⟩
  exact ⟨by rw [he], ⟨⟨L', n', e3.trans hX, by omega, ho'⟩, h2.fresh hc (by simp; omega), h3⟩, hc⟩

/-- One key, in an array of the call's own. -/
theorem OL.touch1 (h : OL w0 w S room N L) {k : K} (hk : wfK k) (t : TypeId) (hl : N + 1 ≤ 9223372036854775807) {X : List K} {e : Int} (hX : (tch room L k).1 = X) (he : (((tch room L k).2 : Nat) : Int) = e) :
    Calls Try.prog 12 #[.pointer (some ⟨S + 1, 0, none⟩), .slice (some ⟨w.heap.size, 0, none⟩) 1 1] (w.alloc (.cells #[kv k] t)) fun r w' => r = .returned (.int .i64 e) ∧ OL w0 w' S room (N + 1) X ∧ Ch [S + 1, S] w w' := by
  have hal : Ch [] w (w.alloc (.cells #[kv k] t)) := (Ch.refl [] w).alloc _
  have hlt := h.lt
  have h1 : tchs room L [k] = tch room L k := by
    unfold tchs
    split
    · rename_i e0
      unfold tchs
      rw [← e0]
    · rfl
  refine ((h.quiet hal).touch (some ⟨w.heap.size, 0, none⟩) 1 [k] (.inr ⟨_, 0, rfl, fun j x hj => ?_⟩) (.inr fun x hx => ?_) (by simpa using hk) hl (X := X) (e := e) (by rw [h1]; exact hX) (by rw [h1]; exact he)).mono ?_
  · obtain ⟨hj1, rfl⟩ := List.getElem?_eq_some_iff.1 hj
    obtain rfl : j = 0 := by simpa using hj1
    rw [World.cell?_alloc_at _ _ _ _ rfl]
    rfl
  · cases hx
    simp
    omega
  · rintro r w' ⟨rfl, ho, hc⟩
    exact ⟨rfl, ho, (hal.mono (by simp)).trans hc⟩

theorem OL.drop (h : OL w0 w S room N L) {k : K} (hk : wfK k) {X : List K} {b : Bool} (hX : drp L k = X) (hb : decide (k ∈ L) = b) :
    Calls Try.prog 10 #[.pointer (some ⟨S + 1, 0, none⟩), kv k] w fun r w' => r = .returned (.bool b) ∧ OL w0 w' S room N X ∧ Ch [S] w w' := by
  obtain ⟨⟨E, n, rfl, e2, ho⟩, h2, h3⟩ := h
  refine (drop_any ho hk).mono ?_
  rintro r w' ⟨rfl, L', e3, ho', hc⟩
  exact ⟨by rw [hb], ⟨⟨L', n, e3.trans hX, e2, ho'⟩, h2.fresh hc (by simp; omega), h3⟩, hc⟩

theorem OL.has (h : OL w0 w S room N L) {k : K} (hk : wfK k) {b : Bool} (hb : decide (k ∈ L) = b) : Calls Try.prog 18 #[.pointer (some ⟨S + 1, 0, none⟩), kv k] w fun r w' => r = .returned (.bool b) ∧ Ch [] w w' := by
  obtain ⟨⟨E, n, rfl, e2, ho⟩, h2, h3⟩ := h
  rw [← hb]
  exact has_any ho hk
theorem OL.len (h : OL w0 w S room N L) : Calls Try.prog 15 #[.pointer (some ⟨S + 1, 0, none⟩)] w fun r w' => r = .returned (.int .i64 (L.length : Int)) ∧ w' = w := by
  obtain ⟨⟨E, n, rfl, e2, ho⟩, h2, h3⟩ := h
  rw [ks_len]
  exact len_any ho
theorem OL.list (h : OL w0 w S room N L) : Calls Try.prog 17 #[.pointer (some ⟨S + 1, 0, none⟩)] w fun r w' => ∃ v, r = .returned v ∧ w'.ownsRow w.heap.size 3 1 v L.length (kvs L) ∧ Ch [] w w' := by
  obtain ⟨E, rfl, hg⟩ := h.og
  exact list_any hg
end
theorem own_KAt {w : World} {B n : Nat} {a : Option Addr} {cap : Nat} {L : List K} (h : w.ownsRow B 3 1 (.slice a n cap) L.length (kvs L)) : n = L.length ∧ KAt w a L := by
  rcases h.2 with ⟨e, h0⟩ | ⟨g, cap', cur, e, _⟩
  · cases e
    exact ⟨h0.symm, .inl (List.length_eq_zero_iff.1 h0)⟩
  · cases e
    refine ⟨rfl, .inr ⟨g, 0, rfl, fun j k hj => ?_⟩⟩
    have hlt := (List.getElem?_eq_some_iff.1 hj).1
    rw [Nat.zero_add, World.ownsRow.cellAt h j (by omega)]
    simp [kvs, hj]
end Go.Proofs.Ytediabcgeghogaa.oI
