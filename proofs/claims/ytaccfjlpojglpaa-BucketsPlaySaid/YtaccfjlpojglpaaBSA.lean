/-
  A table of values of string: how it lies in memory.
-/
import Derived.Test.YtaccfjlpojglpaaBuM
import Derived.Test.YtaccfjlpojglpaaBaseT
import Derived.Tactics
import Derived.Tactics2
import Derived.Laws.Pointers
namespace Go.Proofs.Ytaccfjlpojglpaa.bS
open Go.RowKit

abbrev V := List UInt8
abbrev vv (v : V) : Value := .string ⟨v.toArray⟩
abbrev v0 : V := []
abbrev E := Ent V
/-- An entry's cells. -/
def encE (e : E) : List Value := [.int .u64 (e.k : Int), vv e.v]
def cells (L : List E) : List Value := L.flatMap encE
theorem cells_len : ∀ L : List E, (cells L).length = L.length * 2
  | [] => rfl
  | e :: L => by
    show (encE e ++ cells L).length = _
    rw [List.length_append, cells_len L]
    show 2 + _ = (L.length + 1) * 2
    omega
theorem cells_one (L : List E) : ∀ v ∈ cells L, v.oneCell' = true := by
  intro v hv
  obtain ⟨e, _, he⟩ := List.mem_flatMap.1 hv
  simp [encE] at he
  rcases he with rfl | rfl <;> rfl
theorem cells_at {L : List E} {j : Nat} {e : E} (h : L[j]? = some e) : (cells L)[j * 2]? = some (.int .u64 (e.k : Int)) ∧ (cells L)[j * 2 + 1]? = some (vv e.v) := flat2_at (fun e : E => Value.int .u64 (e.k : Int)) (fun e : E => vv e.v) L j e h
theorem cells_append (A B : List E) : cells (A ++ B) = cells A ++ cells B := List.flatMap_append
theorem cells_cons (e : E) (B : List E) : cells (e :: B) = [.int .u64 (e.k : Int), vv e.v] ++ cells B := rfl
theorem infoE : (Try.prog.info? 92).map (fun i => (i.zero, i.size, i.bytes)) = some (some (.agg #[.int .u64 0, vv v0]), 2, 24) := by kernel_rfl
theorem zeroE (w : World) : (zeroValue 92).run Try.prog w = .ok (.agg #[.int .u64 0, vv v0]) w := by kernel_rfl

/-- A chain: a row of entries of the table's own. -/
abbrev CR (w : World) (S : Nat) (v : Value) (C : List E) : Prop := w.ownsRow S 92 2 v C.length (cells C)
/-- A table: the struct in block R, the chains' heads in block K; n buckets, H their chains; its own blocks lie from S on. -/
structure TB (w : World) (S R K n room : Nat) (H : Nat → Value) (L : List E) : Prop where
  blk : w.heap[R]? = some (.cells #[.int .i64 (room : Int), .slice (some ⟨K, 0, none⟩) n n] 88 (0, 0))
  heads : w.ownsRow S 93 1 (.slice (some ⟨K, 0, none⟩) n n) n ((List.range n).map H)
  rows : ∀ b, b < n → CR w S (H b) (chn n b L)
  apart : ∀ b b', b < n → b' < n → b ≠ b' → (H b).ownBlock = none ∨ (H b).ownBlock ≠ (H b').ownBlock
  rS : S ≤ R
  nd : (ksE L).Nodup
  hn : 1 ≤ n ∧ n ≤ 64
  hr : 1 ≤ room ∧ room ≤ 64
  hl : L.length ≤ room
section
variable {w w' : World} {S R K n room : Nat} {H : Nat → Value} {L : List E}
theorem TB.c0 (h : TB w S R K n room H L) : w.cell? ⟨R, 0, none⟩ = some (.int .i64 (room : Int)) := by rw [(cell_plain h.blk 0).1]; rfl
theorem TB.c1 (h : TB w S R K n room H L) : w.cell? ⟨R, 1, none⟩ = some (.slice (some ⟨K, 0, none⟩) n n) := by rw [(cell_plain h.blk 1).1]; rfl
theorem TB.head (h : TB w S R K n room H L) {b : Nat} (hb : b < n) : w.cell? ⟨K, b, none⟩ = some (H b) ∧ w.frozen? ⟨K, b, none⟩ = false := by
  refine ⟨?_, h.heads.frozenAt b⟩
  rw [h.heads.cellAt b (by omega)]
  simp [hb]
theorem TB.quiet (h : TB w S R K n room H L) (hc : Ch [] w w') : TB w' S R K n room H L :=
  ⟨(hc.block R (Array.getElem?_eq_some_iff.1 h.blk).1 (by simp)).trans h.blk, own_ch h.heads hc (by simp), fun b hb => own_ch (h.rows b hb) hc (by simp), h.apart, h.rS, h.nd, h.hn, h.hr, h.hl⟩
theorem TB.rK (h : TB w S R K n room H L) : R ≠ K := by
  rintro rfl
  rcases h.heads.2 with ⟨e, _⟩ | ⟨g, cap, cur, e, _, hg, _⟩
  · cases e
  · cases e
    rw [h.blk] at hg
    cases hg
theorem TB.rH (h : TB w S R K n room H L) {b : Nat} (hb : b < n) : (H b).ownBlock ≠ some R := by
  intro e2
  rcases (h.rows b hb).2 with ⟨e, _⟩ | ⟨g, cap, cur, e, _, hg, _⟩
  · rw [e] at e2; cases e2
  · rw [e] at e2
    obtain rfl : g = R := by simpa [Value.ownBlock] using e2
    rw [h.blk] at hg
    cases hg
theorem TB.kH (h : TB w S R K n room H L) {b : Nat} (hb : b < n) : (H b).ownBlock ≠ some K := by
  intro e2
  rcases own_apart (h.rows b hb) h.heads (by decide) with e | e
  · rw [e] at e2; cases e2
  · exact e e2
theorem TB.lt (h : TB w S R K n room H L) : R < w.heap.size ∧ K < w.heap.size ∧ S ≤ K ∧ S ≤ w.heap.size := by
  have h1 := h.heads.lt K rfl
  exact ⟨(Array.getElem?_eq_some_iff.1 h.blk).1, h1.2, h1.1, by omega⟩
/-- A chain's form. -/
theorem CR.form {v : Value} {C : List E} (h : CR w S v C) : ∃ a cap, v = .slice a C.length cap ∧ C.length ≤ cap ∧ cap ≤ maxLen ∧ (a = none → C = [] ∧ cap = 0) ∧ ∀ j e, C[j]? = some e → ∃ g, a = some ⟨g, 0, none⟩ ∧ w.cell? ⟨g, j * 2, none⟩ = some (.int .u64 (e.k : Int)) ∧ w.cell? ⟨g, j * 2 + 1, none⟩ = some (vv e.v) ∧ w.frozen? ⟨g, j * 2 + 1, none⟩ = false := by
  rcases h.2 with ⟨e, h0⟩ | ⟨g, cap, cur, rfl, hb, hg, h1, h2, h3, h4⟩
  · have hC := List.length_eq_zero_iff.1 h0
    refine ⟨none, 0, by rw [e, h0], by omega, by unfold maxLen; omega, fun _ => ⟨hC, rfl⟩, fun j e hj => ?_⟩
    rw [hC] at hj
    cases hj
  · refine ⟨_, cap, rfl, h1, h2, fun e => (by cases e), fun j e hj => ?_⟩
    have hlt := (List.getElem?_eq_some_iff.1 hj).1
    obtain ⟨e0, e1⟩ := cells_at hj
    exact ⟨g, rfl, by rw [h.cellAt (j * 2) (by omega)]; exact e0, by rw [h.cellAt (j * 2 + 1) (by omega)]; exact e1, h.frozenAt _⟩
end
/-- A table that may be nil. -/
def TG (w : World) (S : Nat) (p : Option Addr) (n : Nat) (L : List E) : Prop := (p = none ∧ n = 0 ∧ L = []) ∨ ∃ R K room H, p = some ⟨R, 0, none⟩ ∧ TB w S R K n room H L
section
variable {w w' : World} {S n : Nat} {p : Option Addr} {L : List E}
theorem TG.quiet (h : TG w S p n L) (hc : Ch [] w w') : TG w' S p n L := by
  rcases h with h | ⟨R, K, room, H, rfl, h⟩
  · exact .inl h
  · exact .inr ⟨R, K, room, H, rfl, h.quiet hc⟩
theorem TG.le (h : TG w S p n L) : n ≤ 64 ∧ L.length ≤ 64 := by
  rcases h with ⟨_, rfl, rfl⟩ | ⟨R, K, room, H, rfl, h⟩
  · simp
  · have := h.hn; have := h.hr; have := h.hl; omega
theorem TG.nd (h : TG w S p n L) : (ksE L).Nodup := by
  rcases h with ⟨_, _, rfl⟩ | ⟨R, K, room, H, rfl, h⟩
  · exact List.nodup_nil
  · exact h.nd
end
/-- The same, the room told. -/
def TGR (w : World) (S : Nat) (p : Option Addr) (n room : Nat) (L : List E) : Prop := (p = none ∧ n = 0 ∧ L = []) ∨ ∃ R K H, p = some ⟨R, 0, none⟩ ∧ TB w S R K n room H L
theorem TGR.tg {w : World} {S n room : Nat} {p : Option Addr} {L : List E} (h : TGR w S p n room L) : TG w S p n L := by
  rcases h with h | ⟨R, K, H, h1, h2⟩
  · exact .inl h
  · exact .inr ⟨R, K, room, H, h1, h2⟩
theorem TGR.quiet {w w' : World} {S n room : Nat} {p : Option Addr} {L : List E} (h : TGR w S p n room L) (hc : Ch [] w w') : TGR w' S p n room L := by
  rcases h with h | ⟨R, K, H, h1, h2⟩
  · exact .inl h
  · exact .inr ⟨R, K, H, h1, h2.quiet hc⟩
end Go.Proofs.Ytaccfjlpojglpaa.bS
