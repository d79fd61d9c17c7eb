/-
  A table of values of string of a law's own.
-/
import Derived.Test.YtaccfjlpojglpaaBSH
import Derived.Test.YtaccfjlpojglpaaBSJ
namespace Go.Proofs.Ytaccfjlpojglpaa.bS
open Go.RowKit

/-- A table that was made since w0: its struct in block R, its own blocks from S on. -/
structure TL (w0 w : World) (S R n room : Nat) (L : List E) : Prop where
  t : ∃ K H, TB w S R K n room H L
  ch : Ch [] w0 w
  lo : w0.heap.size ≤ S
section
variable {w0 w w' : World} {S R n room : Nat} {L : List E}
theorem TL.quiet (h : TL w0 w S R n room L) (hc : Ch [] w w') : TL w0 w' S R n room L := by
  obtain ⟨⟨K, H, ht⟩, h2, h3⟩ := h
  exact ⟨⟨K, H, ht.quiet hc⟩, h2.trans hc, h3⟩
theorem TL.tg (h : TL w0 w S R n room L) : TG w S (some ⟨R, 0, none⟩) n L := by
  obtain ⟨⟨K, H, ht⟩, h2, h3⟩ := h
  exact .inr ⟨R, K, room, H, rfl, ht⟩
theorem TL.le (h : TL w0 w S R n room L) : S ≤ w.heap.size ∧ L.length ≤ room ∧ 1 ≤ room ∧ room ≤ 64 ∧ 1 ≤ n ∧ n ≤ 64 ∧ (ksE L).Nodup := by
  obtain ⟨⟨K, H, ht⟩, h2, h3⟩ := h
  exact ⟨ht.lt.2.2.2, ht.hl, ht.hr.1, ht.hr.2, ht.hn.1, ht.hn.2, ht.nd⟩

theorem tl_new (n room : Nat) (w0 w : World) (hc : Ch [] w0 w) (hn : 1 ≤ n ∧ n ≤ 64) (hr : 1 ≤ room ∧ room ≤ 64) :
    Calls Try.prog 23 #[.int .i64 (n : Int), .int .i64 (room : Int)] w fun r w' => ∃ R, r = .returned (.tuple #[.pointer (some ⟨R, 0, none⟩), .int .i64 0]) ∧ TL w0 w' w.heap.size R n room [] ∧ Ch [] w w' := by
  refine (new_ok n room w hn hr).mono ?_
  rintro e w' ⟨R, rfl, ht, hc2⟩
  exact ⟨R, rfl, ⟨⟨_, _, ht⟩, hc.trans hc2, hc.size⟩, hc2⟩
theorem TL.put (h : TL w0 w S R n room L) (k : Nat) (v : V) {X : List E} {b : Bool} {e : Nat} (hX : putE room L k v = (X, b, e)) :
    Calls Try.prog 24 #[.pointer (some ⟨R, 0, none⟩), .int .u64 (k : Int), vv v] w fun r w' => r = .returned (.tuple #[.bool b, .int .i64 (e : Int)]) ∧ TL w0 w' S R n room X ∧ Tn S w w' := by
  obtain ⟨⟨K, H, ht⟩, h2, h3⟩ := h
  refine (put_any ht k v).mono ?_
  rintro r w' ⟨rfl, ⟨H', ht'⟩, htn⟩
  rw [hX] at ht' ⊢
  exact ⟨rfl, ⟨⟨K, H', ht'⟩, htn.ch h2 h3, h3⟩, htn⟩
theorem TL.get (h : TL w0 w S R n room L) (k : Nat) {v : V} {b : Bool} (hv : (valE L k).getD v0 = v) (hb : (valE L k).isSome = b) :
    Calls Try.prog 26 #[.pointer (some ⟨R, 0, none⟩), .int .u64 (k : Int)] w fun r w' => r = .returned (.tuple #[vv v, .bool b]) ∧ Ch [] w w' := by
  rw [← hv, ← hb]
  exact get_any h.tg k
theorem TL.len (h : TL w0 w S R n room L) : Calls Try.prog 41 #[.pointer (some ⟨R, 0, none⟩)] w fun e w' => e = .returned (.int .i64 (L.length : Int)) ∧ w' = w := len_any h.tg
theorem TL.bucket (h : TL w0 w S R n room L) (k : Nat) : Calls Try.prog 42 #[.pointer (some ⟨R, 0, none⟩), .int .u64 (k : Int)] w fun e w' => e = .returned (.int .i64 ((bk n k : Nat) : Int)) ∧ w' = w := bucket_any h.tg k
/-- Some keys, in an array of the call's own. -/
theorem TL.del (h : TL w0 w S R n room L) (zs : List Nat) {m cap : Nat} (hm : m = zs.length) (hmax : m ≤ 1000) (Y : Nat) (hY : w.heap[Y]? = some (.cells (u64s zs).toArray 29 (0, 0))) {X : List E} {c : Nat} (hX : delsE L zs = (X, c)) :
    Calls Try.prog 25 #[.pointer (some ⟨R, 0, none⟩), .slice (some ⟨Y, 0, none⟩) m cap] w fun r w' => r = .returned (.int .i64 (c : Int)) ∧ TL w0 w' S R n room X ∧ Tn S w w' := by
  obtain ⟨⟨K, H, ht⟩, h2, h3⟩ := h
  refine (callsIn_wide.1 (del_in 0 S n room (some ⟨R, 0, none⟩) L (some ⟨Y, 0, none⟩) m cap zs w (.inr ⟨R, K, H, rfl, ht⟩) ht.lt.2.2.2 hm hmax (fun W hW => .inr ⟨Y, 0, rfl, fun j k hj => ?_⟩))).mono ?_
  · rw [Nat.zero_add, (cell_plain (hW.blk hY (by decide) (by decide)) j).1]
    simp [u64s, hj]
  · rintro r w' ⟨rfl, ht', htn⟩
    rw [hX] at ht' ⊢
    rcases ht' with ⟨h0, _⟩ | ⟨R', K', H', h1, ht'⟩
    · cases h0
    · obtain rfl : R = R' := by simpa using h1
      exact ⟨rfl, ⟨⟨K', H', ht'⟩, htn.ch h2 h3, h3⟩, htn⟩
end
end Go.Proofs.Ytaccfjlpojglpaa.bS
