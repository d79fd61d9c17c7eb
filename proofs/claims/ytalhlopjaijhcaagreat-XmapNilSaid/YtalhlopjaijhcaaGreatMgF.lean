/-
  Several texts in one: A table of handles: how it lies in memory. · A table of handles: how many buckets, a key's bucket, how many keys; New. · A table of handles: a bucket's keys with their places, one by one. · A table of handles: a key's entry as it stands in its chain. · slices.Insert at a chain's head, of one entry of handles. · slices.Delete of one entry of a chain of handles. · A table of handles: what a call may turn; Get, Put.
-/
import Derived.Test.YtalhlopjaijhcaaGreatMgA
import Derived.Test.YtalhlopjaijhcaaGreatBaseT
import Derived.Tactics
import Derived.Tactics2
import Derived.Laws.Pointers
import Derived.Deep.RegionLaw
namespace Go.Proofs.YtalhlopjaijhcaaGreat.bH
open Go.RowKit

abbrev V := Int × Int
/-- A handle, as it is handed. -/
abbrev vv (v : V) : Value := .agg #[.int .i64 v.1, .int .i64 v.2]
abbrev v0 : V := (0, 0)
abbrev E := Ent V
/-- An entry's cells. -/
def encE (e : E) : List Value := [.int .u64 (e.k : Int), .int .i64 e.v.1, .int .i64 e.v.2]
def cells (L : List E) : List Value := L.flatMap encE
theorem cells_len : ∀ L : List E, (cells L).length = L.length * 3
  | [] => rfl
  | e :: L => by
    show (encE e ++ cells L).length = _
    rw [List.length_append, cells_len L]
    show 3 + _ = (L.length + 1) * 3
    omega
theorem cells_one (L : List E) : ∀ v ∈ cells L, v.oneCell' = true := by
  intro v hv
  obtain ⟨e, _, he⟩ := List.mem_flatMap.1 hv
  simp [encE] at he
  rcases he with rfl | rfl | rfl <;> rfl
theorem cells_at {L : List E} {j : Nat} {e : E} (h : L[j]? = some e) : (cells L)[j * 3]? = some (.int .u64 (e.k : Int)) ∧ (cells L)[j * 3 + 1]? = some (.int .i64 e.v.1) ∧ (cells L)[j * 3 + 2]? = some (.int .i64 e.v.2) := by
  induction L generalizing j with
  | nil => simp at h
  | cons a t ih =>
    have e0 : cells (a :: t) = encE a ++ cells t := rfl
    rw [e0]
    cases j with
    | zero => simp at h; subst h; simp [encE]
    | succ j =>
      have := ih (j := j) (by simpa using h)
      rw [show (j + 1) * 3 = j * 3 + 3 by omega]
      simpa [encE] using this
theorem cells_append (A B : List E) : cells (A ++ B) = cells A ++ cells B := List.flatMap_append
theorem cells_cons (e : E) (B : List E) : cells (e :: B) = [.int .u64 (e.k : Int), .int .i64 e.v.1, .int .i64 e.v.2] ++ cells B := rfl
theorem infoE : (Tryz.prog.info? 170).map (fun i => (i.zero, i.size, i.bytes)) = some (some (.agg #[.int .u64 0, .int .i64 0, .int .i64 0]), 3, 24) := by kernel_rfl
theorem zeroE (w : World) : (zeroValue 170).run Tryz.prog w = .ok (.agg #[.int .u64 0, .int .i64 0, .int .i64 0]) w := by kernel_rfl
/-- A row moved on by so many cells, as many laid ahead of it. -/
theorem shift_listz (z : Nat) (l c q : List Value) (hq : q.length = z) (hl : c.length + z ≤ l.length) (N : Nat) (hN : N = z + c.length) :
    (((l.take z ++ c ++ l.drop (z + c.length)).take 0 ++ q ++ (l.take z ++ c ++ l.drop (z + c.length)).drop (0 + q.length)).take N) = q ++ c := by
  have h1 : (l.take z ++ c ++ l.drop (z + c.length)).drop (0 + q.length) = c ++ l.drop (z + c.length) := by
    rw [Nat.zero_add, hq, List.append_assoc]
    exact List.drop_left' (by rw [List.length_take]; omega)
  rw [h1, List.take_zero, List.nil_append, ← List.append_assoc]
  exact List.take_left' (by rw [List.length_append, hq, hN])
/-- Cells ahead of a row, in new cells. -/
theorem fresh_listz (z : Nat) (l c q : List Value) (hq : q.length = z) (N : Nat) (hN : N = z + c.length) :
    (((l.take 0 ++ q ++ l.drop (0 + q.length)).take z ++ c ++ (l.take 0 ++ q ++ l.drop (0 + q.length)).drop (z + c.length)).take N) = q ++ c := by
  have h1 : (l.take 0 ++ q ++ l.drop (0 + q.length)).take z = q := by
    rw [List.take_zero, List.nil_append]
    exact List.take_left' hq
  rw [h1]
  exact List.take_left' (by rw [List.length_append, hq, hN])
/-- A row without some cells in its middle. -/
theorem cut_listz (A Y Z R z : List Value) (N : Nat) (hN : N = A.length + Z.length) :
    ((((A ++ Y ++ Z ++ R).take A.length ++ Z ++ (A ++ Y ++ Z ++ R).drop (A.length + Z.length)).take (A.length + Z.length) ++ z ++ ((A ++ Y ++ Z ++ R).take A.length ++ Z ++ (A ++ Y ++ Z ++ R).drop (A.length + Z.length)).drop (A.length + Z.length + z.length)).take N) = A ++ Z := by
  have h1 : (A ++ Y ++ Z ++ R).take A.length = A := by
    rw [List.append_assoc, List.append_assoc]
    exact List.take_left' rfl
  have h2 : (A ++ Z ++ (A ++ Y ++ Z ++ R).drop (A.length + Z.length)).take (A.length + Z.length) = A ++ Z := List.take_left' (by rw [List.length_append])
  rw [h1, h2, List.append_assoc (A ++ Z)]
  exact List.take_left' (by rw [List.length_append, hN])

/-- A chain: a row of entries of the table's own. -/
abbrev CR (w : World) (S : Nat) (v : Value) (C : List E) : Prop := w.ownsRow S 170 3 v C.length (cells C)
/-- A table: the struct in block R, the chains' heads in block K; n buckets, H their chains; its own blocks lie from S on. -/
structure TB (w : World) (S R K n room : Nat) (H : Nat → Value) (L : List E) : Prop where
  blk : w.heap[R]? = some (.cells #[.int .i64 (room : Int), .slice (some ⟨K, 0, none⟩) n n] 135 (0, 0))
  heads : w.ownsRow S 154 1 (.slice (some ⟨K, 0, none⟩) n n) n ((List.range n).map H)
  rows : ∀ b, b < n → CR w S (H b) (chn n b L)
  apart : ∀ b b', b < n → b' < n → b ≠ b' → (H b).ownBlock = none ∨ (H b).ownBlock ≠ (H b').ownBlock
  rS : S ≤ R
  nd : (ksE L).Nodup
  hn : 1 ≤ n ∧ n ≤ 64
  hr : 1 ≤ room ∧ room ≤ 64
  hl : L.length ≤ room
section
variable {w w' : World} {S R K n room : Nat} {H : Nat → Value} {L : List E}
theorem TB.c0 (h : TB w S R K n room H L) : w.cell? ⟨R, 0, none⟩ = some (.int .i64 (room : Int)) := by rw [(cell_plain h.blk 0).1]; rfl
theorem TB.c1 (h : TB w S R K n room H L) : w.cell? ⟨R, 1, none⟩ = some (.slice (some ⟨K, 0, none⟩) n n) := by rw [(cell_plain h.blk 1).1]; rfl
theorem TB.head (h : TB w S R K n room H L) {b : Nat} (hb : b < n) : w.cell? ⟨K, b, none⟩ = some (H b) ∧ w.frozen? ⟨K, b, none⟩ = false := by
  refine ⟨?_, h.heads.frozenAt b⟩
  rw [h.heads.cellAt b (by omega)]
  simp [hb]
theorem TB.quiet (h : TB w S R K n room H L) (hc : Ch [] w w') : TB w' S R K n room H L :=
  ⟨(hc.block R (Array.getElem?_eq_some_iff.1 h.blk).1 (by simp)).trans h.blk, own_ch h.heads hc (by simp), fun b hb => own_ch (h.rows b hb) hc (by simp), h.apart, h.rS, h.nd, h.hn, h.hr, h.hl⟩
theorem TB.rK (h : TB w S R K n room H L) : R ≠ K := by
  rintro rfl
  rcases h.heads.2 with ⟨e, _⟩ | ⟨g, cap, cur, e, _, hg, _⟩
  · cases e
  · cases e
    rw [h.blk] at hg
    cases hg
theorem TB.rH (h : TB w S R K n room H L) {b : Nat} (hb : b < n) : (H b).ownBlock ≠ some R := by
  intro e2
  rcases (h.rows b hb).2 with ⟨e, _⟩ | ⟨g, cap, cur, e, _, hg, _⟩
  · rw [e] at e2; cases e2
  · rw [e] at e2
    obtain rfl : g = R := by simpa [Value.ownBlock] using e2
    rw [h.blk] at hg
    cases hg
theorem TB.kH (h : TB w S R K n room H L) {b : Nat} (hb : b < n) : (H b).ownBlock ≠ some K := by
  intro e2
  rcases own_apart (h.rows b hb) h.heads (by decide) with e | e
  · rw [e] at e2; cases e2
  · exact e e2
theorem TB.lt (h : TB w S R K n room H L) : R < w.heap.size ∧ K < w.heap.size ∧ S ≤ K ∧ S ≤ w.heap.size := by
  have h1 := h.heads.lt K rfl
  exact ⟨(Array.getElem?_eq_some_iff.1 h.blk).1, h1.2, h1.1, by omega⟩
/-- A chain's form. -/
theorem CR.form {v : Value} {C : List E} (h : CR w S v C) : ∃ a cap, v = .slice a C.length cap ∧ C.length ≤ cap ∧ cap ≤ maxLen ∧ (a = none → C = [] ∧ cap = 0) ∧ ∀ j e, C[j]? = some e → ∃ g, a = some ⟨g, 0, none⟩ ∧ w.cell? ⟨g, j * 3, none⟩ = some (.int .u64 (e.k : Int)) ∧ w.cell? ⟨g, j * 3 + 1, none⟩ = some (.int .i64 e.v.1) ∧ w.cell? ⟨g, j * 3 + 1 + 1, none⟩ = some (.int .i64 e.v.2) := by
  rcases h.2 with ⟨e, h0⟩ | ⟨g, cap, cur, rfl, hb, hg, h1, h2, h3, h4⟩
  · have hC := List.length_eq_zero_iff.1 h0
    refine ⟨none, 0, by rw [e, h0], by omega, by unfold maxLen; omega, fun _ => ⟨hC, rfl⟩, fun j e hj => ?_⟩
    rw [hC] at hj
    cases hj
  · refine ⟨_, cap, rfl, h1, h2, fun e => (by cases e), fun j e hj => ?_⟩
    have hlt := (List.getElem?_eq_some_iff.1 hj).1
    obtain ⟨e0, e1, e2⟩ := cells_at hj
    exact ⟨g, rfl, by rw [h.cellAt (j * 3) (by omega)]; exact e0, by rw [h.cellAt (j * 3 + 1) (by omega)]; exact e1, by rw [h.cellAt (j * 3 + 1 + 1) (by omega)]; exact e2⟩
end
/-- A table that may be nil. -/
def TG (w : World) (S : Nat) (p : Option Addr) (n : Nat) (L : List E) : Prop := (p = none ∧ n = 0 ∧ L = []) ∨ ∃ R K room H, p = some ⟨R, 0, none⟩ ∧ TB w S R K n room H L
section
variable {w w' : World} {S n : Nat} {p : Option Addr} {L : List E}
theorem TG.quiet (h : TG w S p n L) (hc : Ch [] w w') : TG w' S p n L := by
  rcases h with h | ⟨R, K, room, H, rfl, h⟩
  · exact .inl h
  · exact .inr ⟨R, K, room, H, rfl, h.quiet hc⟩
theorem TG.le (h : TG w S p n L) : n ≤ 64 ∧ L.length ≤ 64 := by
  rcases h with ⟨_, rfl, rfl⟩ | ⟨R, K, room, H, rfl, h⟩
  · simp
  · have := h.hn; have := h.hr; have := h.hl; omega
theorem TG.nd (h : TG w S p n L) : (ksE L).Nodup := by
  rcases h with ⟨_, _, rfl⟩ | ⟨R, K, room, H, rfl, h⟩
  · exact List.nodup_nil
  · exact h.nd
end
/-- The same, the room told. -/
def TGR (w : World) (S : Nat) (p : Option Addr) (n room : Nat) (L : List E) : Prop := (p = none ∧ n = 0 ∧ L = []) ∨ ∃ R K H, p = some ⟨R, 0, none⟩ ∧ TB w S R K n room H L
theorem TGR.tg {w : World} {S n room : Nat} {p : Option Addr} {L : List E} (h : TGR w S p n room L) : TG w S p n L := by
  rcases h with h | ⟨R, K, H, h1, h2⟩
  · exact .inl h
  · exact .inr ⟨R, K, room, H, h1, h2⟩
theorem TGR.quiet {w w' : World} {S n room : Nat} {p : Option Addr} {L : List E} (h : TGR w S p n room L) (hc : Ch [] w w') : TGR w' S p n room L := by
  rcases h with h | ⟨R, K, H, h1, h2⟩
  · exact .inl h
  · exact .inr ⟨R, K, H, h1, h2.quiet hc⟩
end Go.Proofs.YtalhlopjaijhcaaGreat.bH

namespace Go.Proofs.YtalhlopjaijhcaaGreat.bH
open Go.RowKit

attribute [local go_sem] Oper.semAt_some

theorem buckets_any {w : World} {S n : Nat} {p : Option Addr} {L : List E} (h : TG w S p n L) : Calls Tryz.prog 77 #[.pointer p] w fun e w' => e = .returned (.int .i64 (n : Int)) ∧ w' = w := by
  rcases h with ⟨rfl, rfl, rfl⟩ | ⟨R, K, room, H, rfl, h⟩
  · go_enter Tryz.func77, Tryz.ntmps77
    go_wp2
    go_ret
    exact ⟨rfl, rfl⟩
  · have c1 := h.c1
    clear h
    go_enter Tryz.func77, Tryz.ntmps77
    go_wp2
    go_ret
    exact ⟨rfl, rfl⟩

theorem bucket_any {w : World} {S n : Nat} {p : Option Addr} {L : List E} (h : TG w S p n L) (k : Nat) : Calls Tryz.prog 100 #[.pointer p, .int .u64 (k : Int)] w fun e w' => e = .returned (.int .i64 ((bk n k : Nat) : Int)) ∧ w' = w := by
  have hle := h.le.1
  have HB := Lib.hid (buckets_any h)
  clear h
  by_cases h0 : n = 0
  · subst h0
    go_enter Tryz.func100, Tryz.ntmps100
    go_wp2_with fail
    with_reducible refine HB.out.mono ?_
    rintro e w' ⟨rfl, rfl⟩
    go_wp2
    go_ret
    exact ⟨rfl, rfl⟩
  · obtain ⟨m, hm⟩ : ∃ m, m = k * 11400714819323198485 % 18446744073709551616 := ⟨_, rfl⟩
    obtain ⟨q, hq⟩ : ∃ q, q = m / 4294967296 := ⟨_, rfl⟩
    obtain ⟨r, hr⟩ : ∃ r, r = q % n := ⟨_, rfl⟩
    have HR := Lib.hid (show bk n k = r by unfold bk; rw [if_neg h0, hr, hq, hm])
    have hm64 : m < 18446744073709551616 := by rw [hm]; exact Nat.mod_lt _ (by decide)
    have hq32 : q < 4294967296 := by omega
    have hrn : r < n := by rw [hr]; exact Nat.mod_lt _ (by omega)
    have e1 : IntKind.u64.wrap ((k : Int) * 11400714819323198485) = (m : Int) := by
      rw [IntKind.wrap_u64, hm]
      omega
    have e2 : (m : Int) / 4294967296 = (q : Int) := by omega
    have e3 : (q : Int) % (n : Int) = (r : Int) := by rw [hr]; rfl
    have e6 : IntKind.u64.wrap (n : Int) = (n : Int) := by rw [IntKind.wrap_u64]; omega
    have e4 : IntKind.i64.wrap (r : Int) = (r : Int) := IntWalk.i64_in _ (by omega)
    have e5 : wrap64 (r : Int) = (r : Int) := by unfold wrap64; omega
    clear hm hq hr hm64 hq32 hrn hle
    go_enter Tryz.func100, Tryz.ntmps100
    go_wp2_with fail
    with_reducible refine HB.out.mono ?_
    rintro e w' ⟨rfl, rfl⟩
    go_wp2_with fail
    go_ret
    exact ⟨by rw [HR.out]; rfl, rfl⟩

theorem len_any {w : World} {S n : Nat} {p : Option Addr} {L : List E} (h : TG w S p n L) : Calls Tryz.prog 52 #[.pointer p] w fun e w' => e = .returned (.int .i64 (L.length : Int)) ∧ w' = w := by
  have HB := Lib.hid (buckets_any h)
  rcases h with ⟨rfl, rfl, rfl⟩ | ⟨R, K, room, H, rfl, h⟩
  · go_enter Tryz.func52, Tryz.ntmps52
    go_wp2_with fail
    with_reducible refine HB.out.mono ?_
    rintro e w' ⟨rfl, rfl⟩
    go_wp2
    go_loopw [3, 7] (fun sv iv wr => sv = .int .i64 0 ∧ iv = .int .i64 0 ∧ wr = w') (fun _ _ _ => 0)
    case atStart => exact ⟨rfl, rfl, rfl⟩
    case round =>
      obtain ⟨rfl, rfl, rfl⟩ := hrel
      go_wp2
      go_ret
      exact ⟨rfl, rfl⟩
  · have c1 := h.c1
    have hn64 := h.hn.2
    have HH := Lib.hid h
    have HL := Lib.hid (lenE_all (n := n) (by have := h.hn; omega) L)
    have hl64 : L.length ≤ 64 := by have := h.hl; have := h.hr; omega
    clear h
    go_enter Tryz.func52, Tryz.ntmps52
    go_wp2_with fail
    with_reducible refine HB.out.mono ?_
    rintro e w' ⟨rfl, rfl⟩
    go_wp2_with fail
    go_loopw [3, 7] (fun sv iv wr => ∃ i : Nat, i ≤ n ∧ iv = .int .i64 (i : Int) ∧ sv = .int .i64 ((lenE n L i : Nat) : Int) ∧ wr = w') (fun _ iv _ => n - (intOf iv).toNat)
    case atStart => exact ⟨0, Nat.zero_le _, rfl, rfl, rfl⟩
    case round =>
      obtain ⟨i, hi, rfl, rfl, rfl⟩ := hrel
      by_cases hlt : i < n
      · obtain ⟨cH, _⟩ := HH.out.head hlt
        obtain ⟨a, cap, hf, _⟩ := (HH.out.rows i hlt).form
        obtain ⟨m, hm⟩ : ∃ m, m = (chn n i L).length := ⟨_, rfl⟩
        rw [hf, ← hm] at cH
        have hs : lenE n L i + m ≤ 64 := by
          have := lenE_le (n := n) L (m := i + 1) (n - (i + 1))
          rw [show i + 1 + (n - (i + 1)) = n by omega, HL.out] at this
          have h2 : lenE n L (i + 1) = lenE n L i + m := by rw [hm]; rfl
          omega
        have HS := Lib.hid (show lenE n L (i + 1) = lenE n L i + m by rw [hm]; rfl)
        obtain ⟨s, hsn⟩ : ∃ s, s = lenE n L i := ⟨_, rfl⟩
        rw [← hsn] at hs HS ⊢
        have hb0 : (0 : Int) ≤ (i : Int) := by omega
        have hb1 : (i : Int) < (n : Int) := by omega
        have hwr : IntKind.i64.wrap ((s : Int) + (m : Int)) = (s : Int) + (m : Int) := IntWalk.i64_in _ (by omega)
        clear hsn hf hm
        go_wp2
        go_roundw
        case rel => exact ⟨i + 1, by omega, by go_num, by rw [HS.out]; go_num, trivial⟩
        case measure => simp [intOf]; omega
      · obtain rfl : i = n := by omega
        go_wp2
        go_ret
        exact ⟨by rw [HL.out]; rfl, rfl⟩

theorem new_bad (n room : Int) (w : World) (h : ¬ (1 ≤ n ∧ n ≤ 64) ∨ ¬ (1 ≤ room ∧ room ≤ 64)) : Calls Tryz.prog 36 #[.int .i64 n, .int .i64 room] w fun r w' => r = .returned (.tuple #[.pointer none, .int .i64 2]) ∧ w' = w := by
  have HM := Lib.hid (may_any n w)
  have HM2 := Lib.hid (may_any room w)
  by_cases h1 : 1 ≤ n ∧ n ≤ 64
  · have h2 := h.resolve_left (fun h => h h1)
    rw [decide_eq_true h1] at HM
    rw [decide_eq_false h2] at HM2
    clear h h1 h2
    go_enter Tryz.func36, Tryz.ntmps36
    go_wp2_with fail
    with_reducible refine HM.out.mono ?_
    rintro e w1 ⟨rfl, rfl⟩
    go_wp2_with fail
    with_reducible refine HM2.out.mono ?_
    rintro e w1 ⟨rfl, rfl⟩
    go_wp2
    go_ret2
    exact ⟨rfl, rfl⟩
  · rw [decide_eq_false h1] at HM
    clear h h1
    go_enter Tryz.func36, Tryz.ntmps36
    go_wp2_with fail
    with_reducible refine HM.out.mono ?_
    rintro e w1 ⟨rfl, rfl⟩
    go_wp2
    go_ret2
    exact ⟨rfl, rfl⟩

theorem infoH : (Tryz.prog.info? 154).map (fun i => (i.zero, i.size, i.bytes)) = some (some (.slice none 0 0), 1, 24) := by kernel_rfl
theorem heads0 (n : Nat) : (madeCells (Value.slice none 0 0).cells (n * 1)).toList = (List.range n).map fun _ => Value.slice none 0 0 := by
  rw [show (Value.slice none 0 0).cells = #[.slice none 0 0] from rfl, toList_madeCells_one, Nat.mul_one]
  apply List.ext_getElem?
  intro j
  by_cases hj : j < n
  · simp [hj]
  · simp [hj]
theorem new_ok (n room : Nat) (w : World) (hn : 1 ≤ n ∧ n ≤ 64) (hr : 1 ≤ room ∧ room ≤ 64) :
    Calls Tryz.prog 36 #[.int .i64 (n : Int), .int .i64 (room : Int)] w fun r w' => ∃ R, r = .returned (.tuple #[.pointer (some ⟨R, 0, none⟩), .int .i64 0]) ∧ TB w' w.heap.size R w.heap.size n room (fun _ => .slice none 0 0) [] ∧ Ch [] w w' := by
  have HM := Lib.hid (may_any (n : Int) w)
  have HM2 := Lib.hid (may_any (room : Int) w)
  rw [decide_eq_true (by omega)] at HM
  rw [decide_eq_true (by omega)] at HM2
  obtain ⟨i0, hi, hz0, hz1, hz2⟩ := info_parts infoH
  have HN := Lib.hid hn
  have HR := Lib.hid hr
  have hn2 := hn.2
  clear hn hr
  go_enter Tryz.func36, Tryz.ntmps36
  go_wp2_with fail
  with_reducible refine HM.out.mono ?_
  rintro e w1 ⟨rfl, rfl⟩
  go_wp2_with fail
  with_reducible refine HM2.out.mono ?_
  rintro e w1 ⟨rfl, rfl⟩
  go_wp2_with (first | (at_make; refine wpList_make_full _ rfl _ _ 133 rfl w1.heap.size 154 i0 (.slice none 0 0) 1 Tryz.underlying133 hi hz0 hz1 _ _ _ _ n rfl rfl rfl rfl (by rw [hz2]; omega) (by unfold maxLen; omega) (Nat.le_refl _) ?_; intro w2 hrow2 hg2) | fail)
  go_ret2
  have h1 := hrow2.alloc (.cells #[.int .i64 (room : Int), .slice (some ⟨w1.heap.size, 0, none⟩) n n] 135)
  rw [heads0] at h1
  have hc2 : Ch [] w1 w2 := (Ch.refl [] w1).kept hg2 (by simp)
  refine ⟨w2.heap.size, rfl, ⟨World.alloc_heap_new w2 _, h1, fun b hb => ⟨rfl, .inl ⟨rfl, rfl⟩⟩, fun _ _ _ _ _ => .inl rfl, hc2.size, List.nodup_nil, HN.out, HR.out, by simp⟩, hc2.alloc _⟩
end Go.Proofs.YtalhlopjaijhcaaGreat.bH

namespace Go.Proofs.YtalhlopjaijhcaaGreat.bH
open Go.RowKit Go.Shelf

attribute [local go_sem] Oper.semAt_some

/-- The key at a place. -/
def kA (C : List E) (j : Nat) : Nat := (ksE C).getD j 0
theorem kA_at {C : List E} {j : Nat} {e : E} (h : C[j]? = some e) : kA C j = e.k := by
  unfold kA
  rw [List.getD_eq_getElem?_getD, show (ksE C)[j]? = some e.k by simp [ksE, h]]
  rfl
/-- What is yielded at a place. -/
def encP (C : List E) (j : Nat) : Array Value := #[.int .i64 (j : Int), .int .u64 ((kA C j : Nat) : Int)]
theorem encP_at {C : List E} {j : Nat} {e : E} (h : C[j]? = some e) : encP C j = #[.int .i64 (j : Int), .int .u64 (e.k : Int)] := by
  unfold encP
  rw [kA_at h]

theorem places_in (m : Nat) (p : Option Addr) (z : Int) (w : World) :
    CallsIn Fence.wide m Tryz.prog 105 #[.pointer p, .int .i64 z] w fun e w' =>
      e = .returned (.func (.func 128) #[] #[.pointer (some ⟨w.heap.size + 1, 0, none⟩), .pointer (some ⟨w.heap.size, 0, none⟩)]) ∧ w' = (w.alloc (.cells #[.pointer p] 77)).alloc (.cells #[.int .i64 z] 3) := by
  refine callsIn_of_wp Tryz.func105 rfl trivial ?_ rfl
  simp only [Tryz.ntmps105, List.size_toArray, List.length_cons, List.length_nil, Nat.reduceAdd, Nat.reduceSub, Array.replicate_succ, Array.replicate_zero, List.push_toArray, List.append_toArray, List.nil_append, List.cons_append]
  gi_wp2
  go_ret
  exact ⟨rfl, rfl⟩

set_option maxRecDepth 100000 in
set_option maxHeartbeats 1000000 in
theorem places1_in (n l Bz Bt S m : Nat) (p : Option Addr) (z : Int) (L C : List E) (hC : C = chI m L z) (J Jx : List Nat → World → Prop) (hJ : ∀ pre W W', J pre W → Ch [] W W' → J pre W')
    (hY : ∀ pre x W, J pre W → pre ++ [x] <+: List.range C.length → YieldAt Fence.wide (n - 1) Tryz.prog l (encP C x) W fun e W' => (e = .returned (.bool true) ∧ J (pre ++ [x]) W' ∧ KpT 170 W W') ∨ (e = .returned (.bool false) ∧ Jx (pre ++ [x]) W'))
    (W : World) (hz : W.cell? ⟨Bz, 0, none⟩ = some (.int .i64 z)) (hp : W.cell? ⟨Bt, 0, none⟩ = some (.pointer p)) (hT : TG W S p m L) (h0 : J [] W) :
    CallsIn Fence.wide n Tryz.prog 128 #[.func (.yield l) #[] #[], .pointer (some ⟨Bz, 0, none⟩), .pointer (some ⟨Bt, 0, none⟩)] W fun e W' => (∃ v, e = .returned v) ∧
      ((∃ ys, ys = List.range C.length ∧ J ys W') ∨ (∃ pre, pre <+: List.range C.length ∧ Jx pre W')) := by
  have HY := Lib.hid hY
  have HJ := Lib.hid hJ
  have HT := Lib.hid hT
  have HB := Lib.hid (fun nq => buckets_any (hT.quiet ((Ch.refl [] W).drewN nq)))
  have H0 := Lib.hid h0
  clear hY hJ hT h0
  have hw : ∀ f, Fence.wide.fn f := fun _ => trivial
  have hd : Fence.wide.depth = none := rfl
  refine callsIn_of_wp Tryz.func128 rfl trivial ?_ rfl
  simp only [Tryz.ntmps128, List.size_toArray, List.length_cons, List.length_nil, Nat.reduceAdd, Nat.reduceSub, Array.replicate_succ, Array.replicate_zero, List.push_toArray, List.append_toArray, List.nil_append, List.cons_append]
  by_cases hz0 : z < 0
  · have HC := Lib.hid (show C = [] by rw [hC, chI_out (.inl hz0)])
    have hz1 : decide (z < 0) = true := decide_eq_true hz0
    clear hC
    gi_wp2_with fail
    rw [wpIn_wide]
    go_quiet ((go_at_call 77; exact Calls.quiet_of_same (HB.out _)))
    gi_wp2
    refine bodyPost_ret (results_none rfl _ _ _) rfl ?_
    exact ⟨⟨_, rfl⟩, .inl ⟨[], by rw [HC.out]; rfl, HJ.out _ _ _ H0.out ((Ch.refl [] W).drewN nq)⟩⟩
  · have hz1 : decide (z < 0) = false := decide_eq_false hz0
    by_cases hzm : (m : Int) ≤ z
    · have HC := Lib.hid (show C = [] by rw [hC, chI_out (.inr hzm)])
      have hz2 : decide ((m : Int) ≤ z) = true := decide_eq_true hzm
      clear hC
      gi_wp2_with fail
      rw [wpIn_wide]
      go_quiet ((go_at_call 77; exact Calls.quiet_of_same (HB.out _)))
      gi_wp2
      refine bodyPost_ret (results_none rfl _ _ _) rfl ?_
      exact ⟨⟨_, rfl⟩, .inl ⟨[], by rw [HC.out]; rfl, HJ.out _ _ _ H0.out ((Ch.refl [] W).drewN nq)⟩⟩
    · obtain ⟨b, rfl⟩ : ∃ b : Nat, z = (b : Int) := ⟨z.toNat, by omega⟩
      have hb : b < m := by omega
      rw [chI_in hb] at hC
      have hz2 : decide ((m : Int) ≤ (b : Int)) = false := decide_eq_false hzm
      have hz3 : decide (m ≤ b) = false := decide_eq_false (by omega)
      have hb0 : (0 : Int) ≤ (b : Int) := by omega
      have hb1 : (b : Int) < (m : Int) := by omega
      rcases HT.out with ⟨_, h0, _⟩ | ⟨R, K, room, H, rfl, ht⟩
      · omega
      have c1 := ht.c1
      obtain ⟨cH, _⟩ := ht.head hb
      have hrow := ht.rows b hb
      rw [← hC] at hrow
      have hl64 : C.length ≤ 64 := by have := ht.hl; have := ht.hr; have := chn_len m b L; rw [← hC] at this; omega
      obtain ⟨a, cap, hf, _⟩ := CR.form hrow
      obtain ⟨v, hv⟩ : ∃ v, v = H b := ⟨_, rfl⟩
      rw [← hv] at cH hf hrow
      obtain ⟨q, hq⟩ : ∃ q, q = C.length := ⟨_, rfl⟩
      rw [← hq] at hf hl64
      have HQ := Lib.hid hq
      subst hf
      have HR := Lib.hid hrow
      clear hC ht hrow hv hzm hz0 hq
      gi_wp2_with fail
      rw [wpIn_wide]
      go_quiet ((go_at_call 77; exact Calls.quiet_of_same (HB.out _)))
      obtain ⟨n1, hn1⟩ : ∃ n1, n1 = nq := ⟨_, rfl⟩
      rw [← hn1]
      clear hn1
      gi_wp2_with fail
      rw [wpIn_wide]
      go_quiet (fail)
      obtain ⟨W2, hW2⟩ : ∃ W2, W2 = (W.drewN n1).drewN nq := ⟨_, rfl⟩
      have HJ2 := Lib.hid (show J [] W2 by rw [hW2]; exact HJ.out _ _ _ H0.out (((Ch.refl [] W).drewN n1).drewN nq))
      have HR2 := Lib.hid (show W2.ownsRow S 170 3 (.slice a q cap) C.length (cells C) by rw [hW2]; exact HR.out)
      rw [← hW2]
      clear hW2 HR H0 c1 cH hz hp
      gi_wp2_with fail
      gi_loopw [22] (fun r wr => ∃ k : Nat, k ≤ q ∧ r = .int .i64 (k : Int) ∧ J (List.range k) wr ∧ wr.ownsRow S 170 3 (.slice a q cap) C.length (cells C)) (fun r _ => q - (intOf r).toNat)
      case atStart => exact ⟨0, Nat.zero_le _, rfl, HJ2.out, HR2.out⟩
      case round =>
        obtain ⟨k, hk, rfl, hJk, hrow⟩ := hrel
        have HJk := Lib.hid hJk
        have HRk := Lib.hid hrow
        clear hJk
        by_cases hlt : k < q
        · obtain ⟨e, he⟩ : ∃ e, C[k]? = some e := ⟨_, List.getElem?_eq_getElem (by rw [← HQ.out]; exact hlt)⟩
          obtain ⟨a', cap', hv, _, _, _, hat⟩ := CR.form hrow
          obtain ⟨g, rfl, k0, k1, k2⟩ := hat k e he
          obtain ⟨rfl, -, rfl⟩ : a = some ⟨g, 0, none⟩ ∧ q = C.length ∧ cap = cap' := by simpa using hv
          have HPr := Lib.hid (range_snoc' (show k < C.length by rw [← HQ.out]; exact hlt))
          have hE := encP_at he
          clear hrow hat hv he
          have hb0 : (0 : Int) ≤ (k : Int) := by omega
          have hb1 : (k : Int) < (q : Int) := by omega
          have hal : Ch [] wr (wr.alloc (.cells #[.int .u64 (e.k : Int), .int .i64 e.v.1, .int .i64 e.v.2] 170)) := (Ch.refl [] wr).alloc _
          obtain ⟨fn, tmps, assign, body, hy, hR⟩ := HY.out (List.range k) k (wr.alloc (.cells #[.int .u64 (e.k : Int), .int .i64 e.v.1, .int .i64 e.v.2] 170)) (HJ.out _ _ _ HJk.out hal) HPr.out
          rw [hE] at hy
          have HRk2 := Lib.hid (HRk.out.alloc (.cells #[.int .u64 (e.k : Int), .int .i64 e.v.1, .int .i64 e.v.2] 170))
          clear hal hE
          gi_wp2
          refine hR.mono ?_
          rintro e' W3 (⟨rfl, hJ3, hk3⟩ | ⟨rfl, hJx3⟩)
          · have HK := Lib.hid hk3
            have HJ3 := Lib.hid hJ3
            clear hk3 hJ3
            gi_wp2
            go_roundw
            case rel => exact ⟨k + 1, by omega, by go_num, by rw [List.range_succ]; exact HJ3.out, own_kpT HRk2.out HK.out⟩
            case measure => simp [intOf]; omega
          · gi_wp2
            refine bodyPost_ret (results_none rfl _ _ _) rfl ?_
            exact ⟨⟨_, rfl⟩, .inr ⟨_, HPr.out, hJx3⟩⟩
        · gi_wp2
          go_end0
          have hkq : k = C.length := by have := HQ.out; omega
          exact ⟨⟨_, rfl⟩, .inl ⟨_, rfl, by rw [← hkq]; exact HJk.out⟩⟩

theorem places_stops (n : Nat) {Bz Bt S m : Nat} {p : Option Addr} {z : Int} {L : List E} (w : World) (hz : w.cell? ⟨Bz, 0, none⟩ = some (.int .i64 z)) (hp : w.cell? ⟨Bt, 0, none⟩ = some (.pointer p)) (hT : TG w S p m L) :
    SeqP Fence.wide n Tryz.prog 128 #[.pointer (some ⟨Bz, 0, none⟩), .pointer (some ⟨Bt, 0, none⟩)] (fun j : Nat => #[.int .i64 (j : Int), .int .u64 ((kA (chI m L z) j : Nat) : Int)]) (Ch []) (KpT 170) (fun ys => ys = List.range (chI m L z).length) (fun pre => pre <+: List.range (chI m L z).length) w := fun l J Jx W hW hJ hY h0 =>
  places1_in n l Bz Bt S m p z L _ rfl J Jx hJ hY W ((hW.cell (p := ⟨Bz, 0, none⟩) (cell_lt hz)).trans hz) ((hW.cell (p := ⟨Bt, 0, none⟩) (cell_lt hp)).trans hp) (hT.quiet (Ch.of_below hW)) h0
end Go.Proofs.YtalhlopjaijhcaaGreat.bH

namespace Go.Proofs.YtalhlopjaijhcaaGreat.bH
open Go.RowKit Go.Shelf

attribute [local go_sem] Oper.semAt_some

theorem boxed_put {W : World} {B D : Nat} {t : TypeId} {v : Value} (h : Boxed W B t v) {o : Obj} (hD : W.heap[D]? = some o) (ho : o.isCells = false) (o' : Obj) : Boxed (W.putObj D o') B t v :=
  (World.putObj_heap_other (fun e => by subst e; have h2 : W.heap[B]? = some (Obj.cells #[v] t (0, 0)) := h; rw [hD] at h2; cases h2; cases ho)).trans h
theorem ownFrom_chS {β : Type} {w : World} {T : List Nat} {B : Nat} (hB : w.heap.size ≤ B) : OwnFrom B (fun (_ : β) W => Ch T w W) := fun _ _ _ _ hs hg hr => hs.kept hg (fun r e => Nat.le_trans hB (hr r e).1)
theorem boxed_ch {T : List Nat} {w w' : World} {B : Nat} {t : TypeId} {v : Value} (h : Boxed w B t v) (hc : Ch T w w') (hB : B ∉ T) : Boxed w' B t v := (hc.block B h.lt hB).trans h
theorem not_last {pre : List Nat} {x m : Nat} (h : pre ++ [x] <+: List.range m) : x = pre.length ∧ x < m := by
  obtain ⟨h1, h2⟩ := range_pre h
  simp only [List.length_append, List.length_cons, List.length_nil] at h1 h2
  rw [List.range_succ] at h1
  have := List.append_inj_right' h1 rfl
  simp at this
  omega

/-- Where a key's entry stands. -/
structure At (w : World) (S R K n room : Nat) (H : Nat → Value) (L : List E) (k j : Nat) (x : E) (g cap : Nat) : Prop where
  tb : TB w S R K n room H L
  key : x.k = k
  pl : (chn n (bk n k) L)[j]? = some x
  hd : H (bk n k) = .slice (some ⟨g, 0, none⟩) (chn n (bk n k) L).length cap

set_option maxRecDepth 100000 in
set_option maxHeartbeats 2000000 in
theorem find_in (f S n : Nat) (p : Option Addr) (L : List E) (k : Nat) (w : World) (hT : TG w S p n L) :
    CallsIn Fence.wide (f + 6) Tryz.prog 88 #[.pointer p, .int .u64 (k : Int)] w fun e W' =>
      ((k ∉ ksE L ∧ e = .returned (.pointer none)) ∨ ∃ R K room H j x g cap, p = some ⟨R, 0, none⟩ ∧ At w S R K n room H L k j x g cap ∧ e = .returned (.pointer (some ⟨g, j * 3, none⟩))) ∧ Ch [] w W' := by
  have HT := Lib.hid hT
  have HB := Lib.hid (fun W (hW : Ch [] w W) => bucket_any (hT.quiet hW) k)
  clear hT
  have hw : ∀ f, Fence.wide.fn f := fun _ => trivial
  have hd : Fence.wide.depth = none := rfl
  have h1 : 1 ≤ f + 6 := by omega
  obtain ⟨b, hb⟩ : ∃ b, bk n k = b := ⟨_, rfl⟩
  rw [hb] at HB
  have HBk := Lib.hid hb
  clear hb
  refine callsIn_of_wp_marks Tryz.func88 rfl trivial ?_ rfl
  simp only [Tryz.ntmps88, List.size_toArray, List.length_cons, List.length_nil, Nat.reduceAdd, Nat.reduceSub, Array.replicate_succ, Array.replicate_zero, List.push_toArray, List.append_toArray, List.nil_append, List.cons_append]
  gi_wp2_with (first
    | (gi_at_call 100; refine (callsIn_wide.2 (HB.out _ ((((Ch.refl [] w).alloc _).alloc _).alloc _))).mono ?_; rintro e w' ⟨rfl, rfl⟩)
    | (gi_at_call 105; refine (places_in _ _ _ _).mono ?_; rintro e w' ⟨rfl, rfl⟩)
    | fail)
  obtain ⟨V1, hV1⟩ : ∃ V, V = w.alloc (.cells #[.pointer p] 77) := ⟨_, rfl⟩
  obtain ⟨V2, hV2⟩ : ∃ V, V = V1.alloc (.cells #[.int .u64 (k : Int)] 40) := ⟨_, rfl⟩
  obtain ⟨V3, hV3⟩ : ∃ V, V = V2.alloc (.cells #[.pointer none] 167) := ⟨_, rfl⟩
  obtain ⟨V4, hV4⟩ : ∃ V, V = V3.alloc (.cells #[.int .i64 (b : Int)] 3) := ⟨_, rfl⟩
  obtain ⟨V5, hV5⟩ : ∃ V, V = V4.alloc (.cells #[.pointer p] 77) := ⟨_, rfl⟩
  obtain ⟨W0, hW0⟩ : ∃ V, V = V5.alloc (.cells #[.int .i64 (b : Int)] 3) := ⟨_, rfl⟩
  have s1 : V1.heap.size = w.heap.size + 1 := by rw [hV1]; simp
  have s2 : V2.heap.size = w.heap.size + 1 + 1 := by rw [hV2]; simp [s1]
  have s3 : V3.heap.size = w.heap.size + 1 + 1 + 1 := by rw [hV3]; simp [s2]
  have s4 : V4.heap.size = w.heap.size + 1 + 1 + 1 + 1 := by rw [hV4]; simp [s3]
  have s5 : V5.heap.size = w.heap.size + 1 + 1 + 1 + 1 + 1 := by rw [hV5]; simp [s4]
  have hsz : W0.heap.size = w.heap.size + 1 + 1 + 1 + 1 + 1 + 1 := by rw [hW0]; simp [s5]
  have hc0 : Ch [] w W0 := by rw [hW0, hV5, hV4, hV3, hV2, hV1]; exact ((((((Ch.refl [] w).alloc _).alloc _).alloc _).alloc _).alloc _).alloc _
  have q0 : Boxed W0 w.heap.size 77 (.pointer p) := by rw [hW0, hV5, hV4, hV3, hV2, hV1]; exact (((((Boxed.new w _ _).alloc _).alloc _).alloc _).alloc _).alloc _
  have q1 : Boxed W0 (w.heap.size + 1) 40 (.int .u64 (k : Int)) := by rw [hW0, hV5, hV4, hV3, hV2, ← s1]; exact ((((Boxed.new V1 _ _).alloc _).alloc _).alloc _).alloc _
  have q2 : Boxed W0 (w.heap.size + 1 + 1) 167 (.pointer none) := by rw [hW0, hV5, hV4, hV3, ← s2]; exact (((Boxed.new V2 _ _).alloc _).alloc _).alloc _
  have q3 : Boxed W0 (w.heap.size + 1 + 1 + 1) 3 (.int .i64 (b : Int)) := by rw [hW0, hV5, hV4, ← s3]; exact ((Boxed.new V3 _ _).alloc _).alloc _
  have q4 : Boxed W0 (w.heap.size + 1 + 1 + 1 + 1) 77 (.pointer p) := by rw [hW0, hV5, ← s4]; exact (Boxed.new V4 _ _).alloc _
  have q5 : Boxed W0 (w.heap.size + 1 + 1 + 1 + 1 + 1) 3 (.int .i64 (b : Int)) := by rw [hW0, ← s5]; exact Boxed.new V5 _ _
  rw [← hV1, ← hV2, ← hV3, ← hV4, ← hV5, ← hW0]
  clear hV1 hV2 hV3 hV4 hV5 hW0 s1 s2 s3 s4 s5
  have HT0 := Lib.hid (HT.out.quiet hc0)
  have HC0 := Lib.hid hc0
  obtain ⟨C, hC⟩ : ∃ C, C = chI n L (b : Int) := ⟨_, rfl⟩
  have hseq := places_stops (f + 6 - 1) W0 q5.cell q4.cell HT0.out
  rw [← hC] at hseq
  have HC := Lib.hid hC
  clear hC hc0
  refine wpIn_range_p rfl h1 (gf := 128) (lb := #[.pointer (some ⟨w.heap.size + 1 + 1 + 1 + 1 + 1, 0, none⟩), .pointer (some ⟨w.heap.size + 1 + 1 + 1 + 1, 0, none⟩)]) rfl trivial (enters_of Tryz.func128 (by kernel_rfl) rfl)
    hseq
    (fun A B hAB k o hk _ _ => (hAB.block k (Array.getElem?_eq_some_iff.1 hk).1 (by simp)).trans hk)
    (fun h g => h.trans g) (fun W l o o' _ ho hc _ _ => KpT.put W l o o' ho hc) (fun _ => rfl)
    (fun pre W => Ch [] W0 W ∧ ∀ j ∈ pre, kA C j ≠ k)
    (fun c pre W => c = .ret ∧ ∃ R K room H j x g cap, p = some ⟨R, 0, none⟩ ∧ At w S R K n room H L k j x g cap ∧ Boxed W (w.heap.size + 1 + 1) 167 (.pointer (some ⟨g, j * 3, none⟩)) ∧ Ch [w.heap.size + 1 + 1] W0 W)
    (OwnFrom.and (ownFrom_chS (Nat.le_refl _)) (ownFrom_pure _ (fun pre : List Nat => ∀ j ∈ pre, kA C j ≠ k)))
    (fun s A B hs hc => ⟨hs.1.trans hc, hs.2⟩)
    (fun c s W W' row hs hg hr => by
      obtain ⟨h1, R, K, room, H, j, x, g, cap, h2, h3, h4, h5⟩ := hs
      exact ⟨h1, R, K, room, H, j, x, g, cap, h2, h3, h4.kept hg (fun e => by have := (hr _ e.symm).1; omega), h5.kept hg (fun r e => (hr r e).1)⟩)
    ⟨Ch.refl _ _, by simp⟩
    (fun x => { tmps := #[.pointer p, .int .u64 (k : Int), .pointer (some ⟨w.heap.size, 0, none⟩), .pointer (some ⟨w.heap.size + 1, 0, none⟩), .pointer (some ⟨w.heap.size + 1 + 1, 0, none⟩), .pointer (some ⟨w.heap.size + 1 + 1 + 1, 0, none⟩), .int .i64 (x : Int), .int .u64 ((kA C x : Nat) : Int), .pointer p, .int .u64 (k : Int), .int .i64 (b : Int), .pointer p, .int .i64 (b : Int), .func (.func 128) #[] #[.pointer (some ⟨w.heap.size + 1 + 1 + 1 + 1 + 1, 0, none⟩), .pointer (some ⟨w.heap.size + 1 + 1 + 1 + 1, 0, none⟩)], .int .i64 (x : Int), .int .u64 ((kA C x : Nat) : Int), undef, undef, undef, undef, undef, undef, undef, undef, undef, undef, undef, undef], defers := [] }) ?assign ?body ?done ?stop
  case assign =>
    intro l x W K hK
    gi_wp2
    exact hK
  case body =>
    rintro l pre x W ⟨hq, hno⟩ hpre
    obtain ⟨hx, hxm⟩ := not_last hpre
    have c0 := (boxed_ch q0 hq (by simp)).cell
    have c1 := (boxed_ch q1 hq (by simp)).cell
    have c2 := (boxed_ch q2 hq (by simp)).cell
    have f2 := (boxed_ch q2 hq (by simp)).frozen
    have c3 := (boxed_ch q3 hq (by simp)).cell
    have HQ := Lib.hid hq
    have HBx := Lib.hid (boxed_ch q2 hq (by simp))
    obtain ⟨e, he⟩ : ∃ e, C[x]? = some e := ⟨_, List.getElem?_eq_getElem hxm⟩
    have hka := kA_at he
    obtain ⟨y, hy⟩ : ∃ y, kA C x = y := ⟨_, rfl⟩
    rw [hy] at hka ⊢
    have HY := Lib.hid hy
    by_cases hk : y = k
    · subst hk
      rcases HT.out with ⟨_, h0, hL0⟩ | ⟨R, K, room, H, rfl, ht⟩
      · rw [HC.out, hL0] at he
        unfold chI at he
        split at he <;> cases he
      have hbn : b < n := by
        rw [← HBk.out]
        exact bk_lt (by have := ht.hn; omega) _
      have hCe : C = chn n b L := by rw [HC.out, chI_in hbn]
      have htW := ht.quiet (HC0.out.trans hq)
      have t1 := htW.c1
      obtain ⟨tH, _⟩ := htW.head hbn
      have hrow := htW.rows b hbn
      rw [← hCe] at hrow
      obtain ⟨a, cap, hf, hl1, hl2, _, hat⟩ := CR.form hrow
      obtain ⟨g, rfl, k0, _, _⟩ := hat x e he
      have HAt := Lib.hid (show At w S R K n room H L y x e g cap from ⟨ht, hka.symm, by rw [HBk.out, ← hCe]; exact he, by rw [HBk.out, ← hCe]; exact hf⟩)
      obtain ⟨m, hm⟩ : ∃ m, m = C.length := ⟨_, rfl⟩
      rw [← hm] at hf hl1 hxm
      have hb0 : (0 : Int) ≤ (b : Int) := by omega
      have hb1 : (b : Int) < (n : Int) := by omega
      have hx0 : (0 : Int) ≤ (x : Int) := by omega
      have hx1 : (x : Int) < (m : Int) := by omega
      rw [hf] at tH
      have hlt := ht.lt
      have HSm := Lib.hid (show w.heap.size + 1 + 1 ≠ w.heap.size ∧ w.heap.size + 1 + 1 ≠ R ∧ w.heap.size + 1 + 1 ≠ w.heap.size + 1 + 1 + 1 ∧ w.heap.size + 1 + 1 ≠ K by omega)
      have hyy : ((y : Int) == (y : Int)) = true := by simp
      clear hq hno hpre hx he hka hy hCe htW hrow hat k0 hm ht hf hlt q0 q1 q2 q3 q4 q5 hseq hl1 hl2
      gi_wp2_with fail
      refine wpIn_region_round (S := fun w' => w'.cell? ⟨w.heap.size, 0, none⟩ = some (.pointer (some ⟨R, 0, none⟩)) ∧ w'.cell? ⟨R, 1, none⟩ = some (.slice (some ⟨K, 0, none⟩) n n) ∧ w'.cell? ⟨w.heap.size + 1 + 1 + 1, 0, none⟩ = some (.int .i64 (b : Int)) ∧ w'.cell? ⟨K, b, none⟩ = some (.slice (some ⟨g, 0, none⟩) m cap)) (by kernel_rfl) (by kernel_rfl) (fun ⟨_, _, h⟩ => h) ⟨c0, t1, c3, tH⟩ (fun hHeld => ?_)
      refine wpAnyH_take (i := 0) (oi := { dst := some 19, op := _, type := _, pos := _, after := _, guard := _ }) (v := ?v1_0) rfl (by kernel_rfl) (by kernel_rfl) (by kernel_rfl) (by intro _ _ _ h; first | exact h | exact nomatch h.1) (.inl ⟨by rfl, ?h1_0⟩) (by assumption) ?_
      case h1_0 => intro w hSw; obtain ⟨hs0, hs1, hs2, hs3⟩ := hSw; go_simp; (try with_reducible rfl)
      try simp only [Act.put, List.setIfInBounds_toArray, List.set_cons_zero, List.set_cons_succ]
      refine wpAnyH_take (i := 1) (oi := { dst := some 20, op := _, type := _, pos := _, after := _, guard := _ }) (v := ?v2_1) rfl (by kernel_rfl) (by kernel_rfl) (by kernel_rfl) (by intro _ _ _ h; first | exact h | exact nomatch h.1) (.inl ⟨by rfl, ?h2_1⟩) (by assumption) ?_
      case h2_1 => intro w hSw; obtain ⟨hs0, hs1, hs2, hs3⟩ := hSw; go_simp; (try with_reducible rfl)
      try simp only [Act.put, List.setIfInBounds_toArray, List.set_cons_zero, List.set_cons_succ]
      refine wpAnyH_take (i := 2) (oi := { dst := some 21, op := _, type := _, pos := _, after := _, guard := _ }) (v := ?v3_2) rfl (by kernel_rfl) (by kernel_rfl) (by kernel_rfl) (by intro _ _ _ h; first | exact h | exact nomatch h.1) (.inl ⟨by rfl, ?h3_2⟩) (by assumption) ?_
      case h3_2 => intro w hSw; obtain ⟨hs0, hs1, hs2, hs3⟩ := hSw; go_simp; (try with_reducible rfl)
      try simp only [Act.put, List.setIfInBounds_toArray, List.set_cons_zero, List.set_cons_succ]
      refine wpAnyH_take (i := 3) (oi := { dst := some 22, op := _, type := _, pos := _, after := _, guard := _ }) (v := ?v4_3) rfl (by kernel_rfl) (by kernel_rfl) (by kernel_rfl) (by intro _ _ _ h; first | exact h | exact nomatch h.1) (.inl ⟨by rfl, ?h4_3⟩) (by assumption) ?_
      case h4_3 => intro w hSw; obtain ⟨hs0, hs1, hs2, hs3⟩ := hSw; go_simp; (try with_reducible rfl)
      try simp only [Act.put, List.setIfInBounds_toArray, List.set_cons_zero, List.set_cons_succ]
      refine wpAnyH_take (i := 4) (oi := { dst := some 23, op := _, type := _, pos := _, after := _, guard := _ }) (v := ?v5_4) rfl (by kernel_rfl) (by kernel_rfl) (by kernel_rfl) (by intro _ _ _ h; first | exact h | exact nomatch h.1) (.inl ⟨by rfl, ?h5_4⟩) (by assumption) ?_
      case h5_4 => intro w hSw; obtain ⟨hs0, hs1, hs2, hs3⟩ := hSw; go_simp; (try with_reducible rfl)
      try simp only [Act.put, List.setIfInBounds_toArray, List.set_cons_zero, List.set_cons_succ]
      refine wpAnyH_take (i := 5) (oi := { dst := some 24, op := _, type := _, pos := _, after := _, guard := _ }) (v := ?v6_5) rfl (by kernel_rfl) (by kernel_rfl) (by kernel_rfl) (by intro _ _ _ h; first | exact h | exact nomatch h.1) (.inl ⟨by rfl, ?h6_5⟩) (by assumption) ?_
      case h6_5 => intro w hSw; obtain ⟨hs0, hs1, hs2, hs3⟩ := hSw; go_simp; (try with_reducible rfl)
      try simp only [Act.put, List.setIfInBounds_toArray, List.set_cons_zero, List.set_cons_succ]
      refine wpAnyH_take (i := 6) (oi := { dst := some 25, op := _, type := _, pos := _, after := _, guard := _ }) (v := ?v7_6) rfl (by kernel_rfl) (by kernel_rfl) (by kernel_rfl) (by intro _ _ _ h; first | exact h | exact nomatch h.1) (.inl ⟨by rfl, ?h7_6⟩) (by assumption) ?_
      case h7_6 => intro w hSw; obtain ⟨hs0, hs1, hs2, hs3⟩ := hSw; go_simp; (try with_reducible rfl)
      try simp only [Act.put, List.setIfInBounds_toArray, List.set_cons_zero, List.set_cons_succ]
      refine wpAnyH_take (i := 7) (oi := { dst := some 26, op := _, type := _, pos := _, after := _, guard := _ }) (v := ?v8_7) rfl (by kernel_rfl) (by kernel_rfl) (by kernel_rfl) (by intro _ _ _ h; first | exact h | exact nomatch h.1) (.inl ⟨by rfl, ?h8_7⟩) (by assumption) ?_
      case h8_7 => intro w hSw; obtain ⟨hs0, hs1, hs2, hs3⟩ := hSw; go_simp; (try with_reducible rfl)
      try simp only [Act.put, List.setIfInBounds_toArray, List.set_cons_zero, List.set_cons_succ]
      refine wpAnyH_take (i := 8) (oi := { dst := some 27, op := _, type := _, pos := _, after := _, guard := _ }) (v := ?v9_8) rfl (by kernel_rfl) (by kernel_rfl) (by kernel_rfl) (by intro _ _ _ h; first | exact h | exact nomatch h.1) (.inl ⟨by rfl, ?h9_8⟩) (by assumption) ?_
      case h9_8 => intro w hSw; obtain ⟨hs0, hs1, hs2, hs3⟩ := hSw; go_simp; (try with_reducible rfl)
      try simp only [Act.put, List.setIfInBounds_toArray, List.set_cons_zero, List.set_cons_succ]
      refine wpAnyH_ready (rs := [9]) (by kernel_rfl) (by simp) ?_
      refine AllReadyH.cons (o := { dst := none, op := _, type := _, pos := _, after := _, guard := _ }) rfl (fun K hK => ?_) AllReadyH.nil
      go_simp
      refine hK.out _ _ ⟨setCell_other c0 (addr_ne_block HSm.out.1), setCell_other t1 (addr_ne_block HSm.out.2.1), setCell_other c3 (addr_ne_block HSm.out.2.2.1), setCell_other tH (addr_ne_block HSm.out.2.2.2)⟩ (fun hHeld => ?_)
      clear hK K
      try simp only [Act.put, List.setIfInBounds_toArray, List.set_cons_zero, List.set_cons_succ]
      refine wpAnyH_done (by kernel_rfl) ?_ _
      clear hHeld
      gi_wp2
      exact ⟨((KeepsOthers.setCell W ⟨w.heap.size + 1 + 1, 0, none⟩ _).trans (KeepsOthers.drew _)).from _, rfl, R, K, room, H, x, e, g, cap, rfl, HAt.out, HBx.out.set _, ((HQ.out.mono (T := [w.heap.size + 1 + 1]) (by simp)).setCell (p := ⟨w.heap.size + 1 + 1, 0, none⟩) (by simp) _).drew⟩
    · have hyk : ((y : Int) == (k : Int)) = false := by simp; omega
      have hno2 : ∀ j ∈ pre ++ [x], kA C j ≠ k := by
        intro j hj
        rcases List.mem_append.1 hj with hj | hj
        · exact hno j hj
        · obtain rfl : j = x := by simpa using hj
          rw [HY.out]; exact hk
      have HNo := Lib.hid hno2
      clear hq hno hno2 hpre hx he hka hy q0 q1 q2 q3 q4 q5 hseq
      gi_wp2
      exact ⟨(KeepsOthers.refl _).from _, KpT.ch (Ch.refl _ _), HQ.out, HNo.out⟩
  case done =>
    rintro D ys W hD rfl ⟨hq, hno⟩ hK
    have d0 := (boxed_ch q2 hq (by simp)).cell
    have d1 := (boxed_ch q2 hq (by simp)).frozen
    have HBx := Lib.hid (boxed_ch q2 hq (by simp))
    have HQ := Lib.hid hq
    have HNo := Lib.hid (show k ∉ ksE L from fun hm => by
      have h2 : k ∈ ksE C := by
        rcases HT.out with ⟨_, h0, hL0⟩ | ⟨R, K, room, H, rfl, ht⟩
        · rw [hL0] at hm; cases hm
        · have hbn : b < n := by
            rw [← HBk.out]
            exact bk_lt (by have := ht.hn; omega) _
          rw [HC.out, chI_in hbn, ← HBk.out]
          exact chn_key.2 hm
      obtain ⟨e, he, hek⟩ := ksE_mem.1 h2
      obtain ⟨j, hj, hje⟩ := List.mem_iff_getElem.1 he
      have h3 : C[j]? = some e := by rw [← hje]; exact List.getElem?_eq_getElem hj
      exact hno j (List.mem_range.2 hj) (by rw [kA_at h3, hek]))
    clear hno hq q0 q1 q2 q3 q4 q5 hseq
    gi_wp2
    have hK2 := (KeepsOthers.setCell W ⟨w.heap.size + 1 + 1, 0, none⟩ (.pointer none)).same D _ hK rfl
    have hq2 : Ch [w.heap.size + 1 + 1] W0 (W.setCell ⟨w.heap.size + 1 + 1, 0, none⟩ (.pointer none)) := (HQ.out.mono (T := [w.heap.size + 1 + 1]) (by simp)).setCell (p := ⟨w.heap.size + 1 + 1, 0, none⟩) (by simp) _
    have hb2 : Boxed (W.setCell ⟨w.heap.size + 1 + 1, 0, none⟩ (.pointer none)) (w.heap.size + 1 + 1) 167 (.pointer none) := HBx.out.set _
    generalize W.setCell ⟨w.heap.size + 1 + 1, 0, none⟩ (.pointer none) = WZ at *
    refine ⟨by simp, .inl ⟨_, _, rfl, run_takeDeferred hK2, ?_⟩⟩
    have j1 := (boxed_put hb2 hK2 rfl (.deferred none)).cell
    refine ⟨.pointer none, ?_, .inl ⟨HNo.out, rfl⟩, ?_⟩
    · simp [results, Tryz.f88, go_sem, j1]
    · exact HC0.out.fresh ((ownFrom_chS (β := Unit) (w := W0) (T := [w.heap.size + 1 + 1]) (Nat.le_refl _)) () WZ _ (some D) hq2 (grownBy_putObj' WZ D _) (fun r e => by cases e; exact ⟨by omega, _, hK2, rfl⟩)) (by simp; omega)
  case stop =>
    rintro D c pre W hD hpre ⟨rfl, R, K, room, H, j, x, g, cap, hp, hat, hbx, hch⟩ hK
    have HAt := Lib.hid hat
    have HP := Lib.hid hp
    clear hat hp hpre q0 q1 q2 q3 q4 q5 hseq
    gi_wp2
    refine ⟨by simp, .inl ⟨_, _, rfl, run_takeDeferred hK, ?_⟩⟩
    have j1 := (boxed_put hbx hK rfl (.deferred none)).cell
    refine ⟨.pointer (some ⟨g, j * 3, none⟩), ?_, .inr ⟨R, K, room, H, j, x, g, cap, HP.out, HAt.out, rfl⟩, ?_⟩
    · simp [results, Tryz.f88, go_sem, j1]
    · exact HC0.out.fresh ((ownFrom_chS (β := Unit) (w := W0) (T := [w.heap.size + 1 + 1]) (Nat.le_refl _)) () W _ (some D) hch (grownBy_putObj' W D _) (fun r e => by cases e; exact ⟨by omega, _, hK, rfl⟩)) (by simp; omega)
theorem find_any {S n : Nat} {p : Option Addr} {L : List E} (k : Nat) {w : World} (hT : TG w S p n L) :
    Calls Tryz.prog 88 #[.pointer p, .int .u64 (k : Int)] w fun e W' =>
      ((k ∉ ksE L ∧ e = .returned (.pointer none)) ∨ ∃ R K room H j x g cap, p = some ⟨R, 0, none⟩ ∧ At w S R K n room H L k j x g cap ∧ e = .returned (.pointer (some ⟨g, j * 3, none⟩))) ∧ Ch [] w W' := callsIn_wide.1 (find_in 0 S n p L k w hT)
end Go.Proofs.YtalhlopjaijhcaaGreat.bH

namespace Go.Proofs.YtalhlopjaijhcaaGreat.bH
open Go.RowKit Go.Shelf

attribute [local go_sem] Oper.semAt_some

theorem uS : Tryz.prog.underlying 154 = some (.slice 170) := Tryz.underlying154
theorem szE : (Tryz.prog.info? 170).map (·.size) = some 3 := by kernel_rfl

set_option maxRecDepth 100000 in
set_option maxHeartbeats 2000000 in
/-- Of no entries. -/
theorem insert_none {w : World} {S : Nat} {a : Option Addr} {cap : Nat} (h : CR w S (.slice a 0 cap) []) (hS : S ≤ w.heap.size) (e : E) (X : Nat) (hX : w.heap[X]? = some (.cells #[.int .u64 (e.k : Int), .int .i64 e.v.1, .int .i64 e.v.2] 170 (0, 0))) :
    Calls Tryz.prog 101 #[.slice a 0 cap, .int .i64 0, .slice (some ⟨X, 0, none⟩) 1 1] w fun r w' => ∃ v', r = .returned v' ∧ CR w' S v' [e] ∧ w.grownBy w' (Value.slice a 0 cap).ownBlock ∧ (v'.ownBlock = (Value.slice a 0 cap).ownBlock ∨ v'.ownBlock = some w.heap.size) := by
  obtain ⟨i0, hi, hz0, hz1, hz2⟩ := info_parts infoE
  have hnews : ∀ j u, [Value.int .u64 (e.k : Int), .int .i64 e.v.1, .int .i64 e.v.2][j]? = some u → w.cell? ((⟨X, 0, none⟩ : Addr).add j) = some u := fun j u hu => by
    rw [addr_add, Nat.zero_add, (cell_plain hX j).1]
    simpa using hu
  have HR := Lib.hid h
  have hu := uS
  have hform : (a = none ∧ cap = 0) ∨ ∃ g, a = some ⟨g, 0, none⟩ := by
    rcases h.2 with ⟨e1, _⟩ | ⟨g, cap', cur, e1, _⟩
    · cases e1; exact .inl ⟨rfl, rfl⟩
    · cases e1; exact .inr ⟨g, rfl⟩
  clear h hX
  rcases hform with ⟨rfl, rfl⟩ | ⟨g, rfl⟩
  · go_enter Tryz.func101, Tryz.ntmps101
    go_wp2_with (first | (at_builtin; refine wpList_append_own_at _ rfl _ _ 154 rfl S 170 i0 (.agg #[.int .u64 0, .int .i64 0, .int .i64 0]) 3 24 uS hi hz0 hz1 hz2 rfl (by decide) _ 0 [] rfl HR.out ⟨X, 0, none⟩ 1 1 [.int .u64 (e.k : Int), .int .i64 e.v.1, .int .i64 e.v.2] rfl rfl hnews (by simp [Value.oneCell']) (by unfold maxLen; omega) (by omega) hS ?_; intro v' w2 hrow hg hnil hat) | fail)
    go_ret
    exact ⟨_, rfl, hrow, hg, hat⟩
  · by_cases hc : cap = 0
    · subst hc
      go_enter Tryz.func101, Tryz.ntmps101
      go_wp2_with (first | (at_builtin; refine wpList_append_own_at _ rfl _ _ 154 rfl S 170 i0 (.agg #[.int .u64 0, .int .i64 0, .int .i64 0]) 3 24 uS hi hz0 hz1 hz2 rfl (by decide) _ 0 [] rfl HR.out ⟨X, 0, none⟩ 1 1 [.int .u64 (e.k : Int), .int .i64 e.v.1, .int .i64 e.v.2] rfl rfl hnews (by simp [Value.oneCell']) (by unfold maxLen; omega) (by omega) hS ?_; intro v' w2 hrow hg hnil hat) | fail)
      go_ret
      exact ⟨_, rfl, hrow, hg, hat⟩
    · have hc2 : 0 < cap := by omega
      go_enter Tryz.func101, Tryz.ntmps101
      go_wp2_with (first | (at_builtin; refine wpList_append_own_at _ rfl _ _ 154 rfl S 170 i0 (.agg #[.int .u64 0, .int .i64 0, .int .i64 0]) 3 24 uS hi hz0 hz1 hz2 rfl (by decide) _ 0 [] rfl HR.out ⟨X, 0, none⟩ 1 1 [.int .u64 (e.k : Int), .int .i64 e.v.1, .int .i64 e.v.2] rfl rfl hnews (by simp [Value.oneCell']) (by unfold maxLen; omega) (by omega) hS ?_; intro v' w2 hrow hg hnil hat) | fail)
      go_ret
      exact ⟨_, rfl, hrow, hg, hat⟩

set_option maxRecDepth 100000 in
set_option maxHeartbeats 4000000 in
/-- Of some, where there is room. -/
theorem insert_shift {w : World} {S g n cap : Nat} {C : List E} (h : CR w S (.slice (some ⟨g, 0, none⟩) n cap) C) (hn : n = C.length) (h0 : 0 < n) (hl : n ≤ 64) (hroom : n + 1 ≤ cap) (e : E) (X : Nat) (hX : w.heap[X]? = some (.cells #[.int .u64 (e.k : Int), .int .i64 e.v.1, .int .i64 e.v.2] 170 (0, 0))) (hne : X ≠ g) :
    Calls Tryz.prog 101 #[.slice (some ⟨g, 0, none⟩) n cap, .int .i64 0, .slice (some ⟨X, 0, none⟩) 1 1] w fun r w' => r = .returned (.slice (some ⟨g, 0, none⟩) (n + 1) cap) ∧ CR w' S (.slice (some ⟨g, 0, none⟩) (n + 1) cap) (e :: C) ∧ w.grownBy w' (some g) := by
  obtain ⟨cur, hS, hg, hcap, hsz, htk⟩ : ∃ cur, S ≤ g ∧ w.heap[g]? = some (.cells cur 170 (0, 0)) ∧ cap ≤ maxLen ∧ cur.size = cap * 3 ∧ cur.toList.take (n * 3) = cells C := by
    rcases h.2 with ⟨e1, _⟩ | ⟨g', cap', cur, e1, h1, h2, h3, h4, h5, h6⟩
    · cases e1
    · cases e1
      exact ⟨cur, h1, h2, h4, h5, by rw [hn]; exact h6⟩
  have hu := uS
  have hlen : (cells C).length = n * 3 := by rw [cells_len, hn]
  have hfz : w.frozen? ⟨X, 0, none⟩ = false := (cell_plain hX 0).2
  have hfe : w.frozen? ⟨X, 3, none⟩ = false := (cell_plain hX 3).2
  have hsa : w.shape? X = some (170, 3) := by simp [World.shape?, hX]
  have hsb : w.shape? g = some (170, cap * 3) := by simp [World.shape?, hg, hsz]
  have hov : ∀ lb cb, (callFunc 123 #[.slice (some ⟨X, 0, none⟩) 1 1, .slice (some ⟨g, 3, none⟩) lb cb]).run Tryz.prog w = .ok (.value (.bool false)) w := fun lb cb => by
    rw [run_callFunc_extern Tryz.func123 (by kernel_rfl) (by kernel_rfl) (by kernel_rfl) (e := Extern.SlicesOverlaps.overlaps #[154, 154] #[4]) (by kernel_rfl),
      Lib.run_overlaps_apart w 154 4 170 uS 3 (fun w => by kernel_rfl) ⟨X, 0, none⟩ ⟨g, 3, none⟩ 1 1 lb cb hne 170 170 3 (cap * 3) hsa hsb (by omega) hfz hfe]
    rfl
  obtain ⟨W1, hW1⟩ : ∃ W, W = w.drew.setCells g 3 (cells C) := ⟨_, rfl⟩
  have hgW : W1.heap[g]? = some (.cells (spl cur 3 (cells C)) 170 (0, 0)) := by rw [hW1]; exact heap_setCells (cells C) w.drew g 3 cur _ hg
  have hXW : W1.heap[X]? = some (.cells #[.int .u64 (e.k : Int), .int .i64 e.v.1, .int .i64 e.v.2] 170 (0, 0)) := by
    rw [hW1, (ch_setCells (S := [g]) g (.inl (by simp)) (cells C) 3 (Ch.refl _ w.drew)).block X (Array.getElem?_eq_some_iff.1 hX).1 (by simpa using hne)]
    exact hX
  have hcp1 : ∀ ty dc sc, (Builtin.copy_ #[154, 154] ty #[.slice (some ⟨g, 3, none⟩) n dc, .slice (some ⟨g, 0, none⟩) (n + 1) sc]).run Tryz.prog w.drew = .ok (goInt n) W1 := fun ty dc sc => by
    have := run_copy_blk (P := Tryz.prog) w.drew 154 154 ty 170 3 g 3 n dc ⟨g, 0, none⟩ (n + 1) sc (cells C) uS szE hg (by omega) (by rw [hlen, show Nat.min (n + 1) n = n from Nat.min_eq_right (by omega)])
      (fun j v hj => by
        rw [addr_add, Nat.zero_add, (cell_plain (w := w.drew) hg j).1]
        have hjl := (List.getElem?_eq_some_iff.1 hj).1
        rw [← htk, List.getElem?_take_of_lt (by omega)] at hj
        simpa using hj) (cells_one C)
    rw [this, show Nat.min (n + 1) n = n from Nat.min_eq_right (by omega), ← hW1]
  have hcp2 : ∀ ty dc, (Builtin.copy_ #[154, 154] ty #[.slice (some ⟨g, 0, none⟩) (n + 1) dc, .slice (some ⟨X, 0, none⟩) 1 1]).run Tryz.prog W1 = .ok (goInt 1) (W1.setCells g 0 [.int .u64 (e.k : Int), .int .i64 e.v.1, .int .i64 e.v.2]) := fun ty dc => by
    have := run_copy_blk (P := Tryz.prog) W1 154 154 ty 170 3 g 0 (n + 1) dc ⟨X, 0, none⟩ 1 1 [.int .u64 (e.k : Int), .int .i64 e.v.1, .int .i64 e.v.2] uS szE hgW (by rw [spl_size]; simp; omega) (by rw [show Nat.min 1 (n + 1) = 1 from Nat.min_eq_left (by omega)]; rfl)
      (fun j v hj => by
        rw [addr_add, Nat.zero_add, (cell_plain hXW j).1]
        simpa using hj) (by simp [Value.oneCell'])
    rw [this, show Nat.min 1 (n + 1) = 1 from Nat.min_eq_left (by omega)]
    rfl
  have HE := Lib.hid (show CR (W1.setCells g 0 [.int .u64 (e.k : Int), .int .i64 e.v.1, .int .i64 e.v.2]) S (.slice (some ⟨g, 0, none⟩) (n + 1) cap) (e :: C) ∧ w.grownBy (W1.setCells g 0 [.int .u64 (e.k : Int), .int .i64 e.v.1, .int .i64 e.v.2]) (some g) from by
    have h1 : cur.toList.length = cap * 3 := by simpa using hsz
    have h2 := heap_setCells [.int .u64 (e.k : Int), .int .i64 e.v.1, .int .i64 e.v.2] W1 g 0 _ _ hgW
    have hch : Ch [g] w (W1.setCells g 0 [.int .u64 (e.k : Int), .int .i64 e.v.1, .int .i64 e.v.2]) := by
      rw [hW1]
      exact ch_setCells g (.inl (by simp)) _ 0 (ch_setCells g (.inl (by simp)) _ 3 (Ch.refl _ w).drew)
    refine ⟨⟨by rw [cells_len], .inr ⟨g, cap, _, by rw [hn]; rfl, hS, h2, by simp; omega, hcap, by rw [spl_size, spl_size]; exact hsz, ?_⟩⟩, ⟨hch.os, hch.tape, hch.output, hch.size, fun k hk hkg => hch.block k hk (by simpa using hkg)⟩⟩
    rw [spl_list _ _ _ (by rw [spl_size]; simp; omega), spl_list _ _ _ (by omega), cells_cons]
    exact shift_listz 3 _ _ _ rfl (by omega) _ (by rw [hlen, hn, List.length_cons]; omega))
  have hw1 : IntKind.i64.wrap 1 = 1 := by decide
  have hn1 : (1 : Int) ≤ (n : Int) + 1 := by omega
  have hn2 : (0 : Int) ≤ (n : Int) + 1 := by omega
  have hc1 : ¬ (cap = 1) := by omega
  have hc0 : ¬ (cap = 0) := by omega
  have hn0 : ((0 : Int) == (n : Int)) = false := by simp; omega
  have hnc : decide ((cap : Int) < (n : Int) + 1) = false := by simp; omega
  clear hgW hXW hsa hsb hfz hfe htk hsz hg hX hn hlen h hW1 hS
  go_enter Tryz.func101, Tryz.ntmps101
  go_wp2_with (simp only [hov])
  go_region_law (refine step_copy_runI rfl _ _ 154 154 rfl _ _ (by simp [Act.eval, Act.put]) (by simp [Act.eval, Act.put]) (hcp1 _ _ _) ?_)
  go_wp2_with (at_builtin; refine wpList_copy_runI _ rfl _ _ 154 154 rfl _ _ rfl rfl (hcp2 _ _) ?_)
  go_ret
  exact ⟨rfl, HE.out⟩

theorem zc_size (n : Nat) : (Builtin.zeroCells (Value.agg #[.int .u64 0, .int .i64 0, .int .i64 0]).cells n).size = n * 3 := by simp [Builtin.zeroCells, Value.cells]
set_option maxRecDepth 100000 in
set_option maxHeartbeats 4000000 in
/-- Of some, where there is no room. -/
theorem insert_grow {w : World} {S g n cap : Nat} {C : List E} (h : CR w S (.slice (some ⟨g, 0, none⟩) n cap) C) (hn : n = C.length) (h0 : 0 < n) (hl : n ≤ 64) (hroom : cap < n + 1) (hSw : S ≤ w.heap.size) (e : E) (X : Nat) (hX : w.heap[X]? = some (.cells #[.int .u64 (e.k : Int), .int .i64 e.v.1, .int .i64 e.v.2] 170 (0, 0))) :
    Calls Tryz.prog 101 #[.slice (some ⟨g, 0, none⟩) n cap, .int .i64 0, .slice (some ⟨X, 0, none⟩) 1 1] w fun r w' => ∃ G, r = .returned (.slice (some ⟨w.heap.size, 0, none⟩) (n + 1) G) ∧ CR w' S (.slice (some ⟨w.heap.size, 0, none⟩) (n + 1) G) (e :: C) ∧ w.grownBy w' none := by
  obtain ⟨cur, hg, hcap, hnc, hsz, htk⟩ : ∃ cur, w.heap[g]? = some (.cells cur 170 (0, 0)) ∧ cap ≤ maxLen ∧ n ≤ cap ∧ cur.size = cap * 3 ∧ cur.toList.take (n * 3) = cells C := by
    rcases h.2 with ⟨e1, _⟩ | ⟨g', cap', cur, e1, h1, h2, h3, h4, h5, h6⟩
    · cases e1
    · cases e1
      exact ⟨cur, h2, h4, by rw [hn]; exact h3, h5, by rw [hn]; exact h6⟩
  obtain ⟨i0, hi, hz0, hz1, hz2⟩ := info_parts infoE
  have hu := uS
  have hlen : (cells C).length = n * 3 := by rw [cells_len, hn]
  obtain ⟨G, hG⟩ : ∃ G, G = grownCap w (n + 1) cap 170 := ⟨_, rfl⟩
  have hG1 : n + 1 ≤ G := by rw [hG]; exact grownCap_ge w _ _ _
  have hG2 : G ≤ maxLen := by rw [hG]; exact grownCap_le_maxLen w _ _ _ (by unfold maxLen; omega)
  obtain ⟨ROW, hROW⟩ : ∃ R : Array Value, R = Builtin.zeroCells (Value.agg #[.int .u64 0, .int .i64 0, .int .i64 0]).cells (n + 1) ++ Builtin.zeroCells (Value.agg #[.int .u64 0, .int .i64 0, .int .i64 0]).cells (G - (n + 1)) := ⟨_, rfl⟩
  have hRs : ROW.size = G * 3 := by rw [hROW, Array.size_append, zc_size, zc_size]; omega
  have hrz : ∀ ty, (Builtin.append_ #[154, 3] ty #[.slice (some ⟨g, 0, none⟩) 0 cap, .int .i64 ((n : Int) + 1)]).run Tryz.prog w = .ok (.slice (some ⟨w.heap.size, 0, none⟩) (n + 1) G) (w.drew.alloc (.cells ROW 170)) := fun ty => by
    have hold : (Builtin.firstCells i0.size 0 (.slice (some ⟨g, 0, none⟩) 0 cap)).run Tryz.prog w.drew = .ok ([] : List Value).toArray w.drew := run_firstCells_some w.drew i0.size 0 ⟨g, 0, none⟩ 0 cap [] (by simp) (fun j v hj => by simp at hj)
    have := Lib.run_append_grow_zeros w 154 3 ty 170 i0 _ .i64 .i64 uS Tryz.underlying3 hi hz0 (some ⟨g, 0, none⟩) 0 cap [] hold (n + 1) (by omega) (by omega) (by omega) (by omega) (by rw [hz2]; omega) (by rw [hz2]; exact growslice_fits (by omega) (by omega))
    rw [Nat.zero_add, ← hG] at this
    rw [hROW]
    simpa using this
  obtain ⟨N, hN⟩ : ∃ N, N = w.heap.size := ⟨_, rfl⟩
  obtain ⟨W1, hW1⟩ : ∃ W, W = w.drew.alloc (.cells ROW 170) := ⟨_, rfl⟩
  have hN1 : W1.heap[N]? = some (.cells ROW 170 (0, 0)) := by rw [hW1, hN]; exact World.alloc_heap_new w.drew _
  have hold1 : ∀ b o, w.heap[b]? = some o → W1.heap[b]? = some o := fun b o hb => by
    rw [hW1]; exact (Below.heap_alloc w.drew _ b (Array.getElem?_eq_some_iff.1 hb).1).trans hb
  have hcpA : ∀ (W : World), W.heap = W1.heap → ∀ ty, (Builtin.copy_ #[154, 154] ty #[.slice (some ⟨N, 0, none⟩) (n + 1) G, .slice (some ⟨X, 0, none⟩) 1 1]).run Tryz.prog W = .ok (goInt 1) (W.setCells N 0 [.int .u64 (e.k : Int), .int .i64 e.v.1, .int .i64 e.v.2]) := fun W hW ty => by
    have := run_copy_blk (P := Tryz.prog) W 154 154 ty 170 3 N 0 (n + 1) G ⟨X, 0, none⟩ 1 1 [.int .u64 (e.k : Int), .int .i64 e.v.1, .int .i64 e.v.2] uS szE (by rw [hW]; exact hN1) (by rw [hRs]; simp; omega) (by rw [show Nat.min 1 (n + 1) = 1 from Nat.min_eq_left (by omega)]; rfl)
      (fun j v hj => by
        rw [addr_add, Nat.zero_add, (cell_plain (w := W) (by rw [hW]; exact hold1 _ _ hX) j).1]
        simpa using hj) (by simp [Value.oneCell'])
    rw [this, show Nat.min 1 (n + 1) = 1 from Nat.min_eq_left (by omega)]
    rfl
  have hgN : g ≠ N := by have := (Array.getElem?_eq_some_iff.1 hg).1; omega
  have hcpB : ∀ (W : World), W.heap = (W1.setCells N 0 [.int .u64 (e.k : Int), .int .i64 e.v.1, .int .i64 e.v.2]).heap → ∀ ty dc sc, (Builtin.copy_ #[154, 154] ty #[.slice (some ⟨N, 3, none⟩) n dc, .slice (some ⟨g, 0, none⟩) n sc]).run Tryz.prog W = .ok (goInt n) (W.setCells N 3 (cells C)) := fun W hW ty dc sc => by
    have := run_copy_blk (P := Tryz.prog) W 154 154 ty 170 3 N 3 n dc ⟨g, 0, none⟩ n sc (cells C) uS szE (by rw [hW]; exact heap_setCells _ W1 N 0 ROW _ hN1) (by rw [spl_size, hRs]; omega) (by rw [hlen, show Nat.min n n = n from Nat.min_self n])
      (fun j v hj => by
        have hgW : W.heap[g]? = some (.cells cur 170 (0, 0)) := by
          rw [hW, (ch_setCells (S := [N]) N (.inl (by simp)) _ 0 (Ch.refl _ W1)).block g (Array.getElem?_eq_some_iff.1 (hold1 _ _ hg)).1 (by simpa using hgN)]
          exact hold1 _ _ hg
        rw [addr_add, Nat.zero_add, (cell_plain hgW j).1]
        have hjl := (List.getElem?_eq_some_iff.1 hj).1
        rw [← htk, List.getElem?_take_of_lt (by omega)] at hj
        simpa using hj) (cells_one C)
    rw [this, show Nat.min n n = n from Nat.min_self n]
  have HE := Lib.hid (show CR ((((w.alloc (.cells ROW 170)).drew.setCells N 0 [.int .u64 (e.k : Int), .int .i64 e.v.1, .int .i64 e.v.2]).drew).setCells N 3 (cells C)) S (.slice (some ⟨N, 0, none⟩) (n + 1) G) (e :: C) ∧ w.grownBy ((((w.alloc (.cells ROW 170)).drew.setCells N 0 [.int .u64 (e.k : Int), .int .i64 e.v.1, .int .i64 e.v.2]).drew).setCells N 3 (cells C)) none from by
    have hl1 : ROW.toList.length = G * 3 := by simpa using hRs
    rw [hW1] at hN1
    have hch : Ch [] w ((((w.alloc (.cells ROW 170)).drew.setCells N 0 [.int .u64 (e.k : Int), .int .i64 e.v.1, .int .i64 e.v.2]).drew).setCells N 3 (cells C)) :=
      ch_setCells N (.inr (by omega)) _ 3 (ch_setCells N (.inr (by omega)) _ 0 (((Ch.refl _ w).alloc _).drew)).drew
    refine ⟨⟨by rw [cells_len], .inr ⟨N, G, _, by rw [hn]; rfl, by omega, heap_setCells (cells C) _ N 3 _ _ (heap_setCells _ ((w.alloc (.cells ROW 170)).drew) N 0 ROW _ hN1), by rw [List.length_cons]; omega, hG2, by rw [spl_size, spl_size]; exact hRs, ?_⟩⟩,
      ⟨hch.os, hch.tape, hch.output, hch.size, fun k hk _ => hch.block k hk (by simp)⟩⟩
    rw [spl_list _ _ _ (by rw [spl_size]; omega), spl_list _ _ _ (by simp; omega), cells_cons]
    exact fresh_listz 3 _ _ _ rfl _ (by rw [hlen, hn, List.length_cons]; omega))
  have hw1 : IntKind.i64.wrap 1 = 1 := by decide
  have hn1 : (1 : Int) ≤ (n : Int) + 1 := by omega
  have hn2 : (0 : Int) ≤ (n : Int) + 1 := by omega
  have hn3 : (0 : Int) ≤ (n : Int) := by omega
  have hGa : ¬ (G = 1) := by omega
  have hGb : ¬ (G = 0) := by omega
  have hc0 : ¬ (cap = 0) := by omega
  have hn0 : ((0 : Int) == (n : Int)) = false := by simp; omega
  have hnc2 : decide ((cap : Int) < (n : Int) + 1) = true := by simp; omega
  have hnc3 : (cap : Int) < (n : Int) + 1 := by omega
  have hC1 := hcpA ((w.alloc (.cells ROW 170)).drew) (by rw [hW1]; rfl)
  have hC2 := hcpB (((w.alloc (.cells ROW 170)).drew.setCells N 0 [.int .u64 (e.k : Int), .int .i64 e.v.1, .int .i64 e.v.2]).drew) (by rw [hW1]; rfl)
  clear hcpA hcpB
  rw [← hN] at hrz ⊢
  clear hW1 hN1 hold1 hG1 hG2 hRs hROW hG hsz htk hg hn hlen hX h hgN hz0 hz1 hz2 hi hN
  go_enter Tryz.func101, Tryz.ntmps101
  go_wp2_with (first
    | (at_builtin; refine Lib.wpList_append_run _ rfl _ _ _ _ rfl _ _ rfl rfl _ _ (hrz _) ?_)
    | (at_builtin; refine wpList_copy_runI _ rfl _ _ 154 154 rfl _ _ rfl rfl (hC1 _) ?_)
    | fail)
  go_region_law (refine step_copy_runI rfl _ _ 154 154 rfl _ _ (by simp [Act.eval, Act.put]) (by simp [Act.eval, Act.put]) (hC2 _ _ _) ?_)
  go_wp2
  go_ret
  exact ⟨G, rfl, HE.out⟩

/-- One entry ahead of a chain. -/
theorem insert_any {w : World} {S : Nat} {v : Value} {C : List E} (h : CR w S v C) (hS : S ≤ w.heap.size) (hl : C.length ≤ 64) (e : E) (X : Nat) (hX : w.heap[X]? = some (.cells #[.int .u64 (e.k : Int), .int .i64 e.v.1, .int .i64 e.v.2] 170 (0, 0))) (hne : v.ownBlock ≠ some X) :
    Calls Tryz.prog 101 #[v, .int .i64 0, .slice (some ⟨X, 0, none⟩) 1 1] w fun r w' => ∃ v', r = .returned v' ∧ CR w' S v' (e :: C) ∧ w.grownBy w' v.ownBlock ∧ (v'.ownBlock = v.ownBlock ∨ v'.ownBlock = some w.heap.size) := by
  obtain ⟨a, cap, rfl⟩ := own_form h
  by_cases h0 : C = []
  · subst h0
    exact insert_none h hS e X hX
  · have hpos : 0 < C.length := List.length_pos_iff.2 h0
    obtain ⟨g, rfl⟩ : ∃ g, a = some ⟨g, 0, none⟩ := by
      rcases h.2 with ⟨_, h1⟩ | ⟨g, cap', cur, e1, _⟩
      · omega
      · cases e1; exact ⟨g, rfl⟩
    by_cases hc : C.length + 1 ≤ cap
    · refine (insert_shift h rfl hpos hl hc e X hX (fun e1 => hne (by rw [e1]; rfl))).mono ?_
      rintro r w' ⟨rfl, h1, h2⟩
      exact ⟨_, rfl, h1, h2, .inl rfl⟩
    · refine (insert_grow h rfl hpos hl (by omega) hS e X hX).mono ?_
      rintro r w' ⟨G, rfl, h1, h2⟩
      exact ⟨_, rfl, h1, ⟨h2.os, h2.tape, h2.output, h2.size, fun k hk _ => h2.block k hk (by simp)⟩, .inr rfl⟩
end Go.Proofs.YtalhlopjaijhcaaGreat.bH

namespace Go.Proofs.YtalhlopjaijhcaaGreat.bH
open Go.RowKit Go.Shelf

attribute [local go_sem] Oper.semAt_some

/-- 'clear' of one entry. -/
theorem clear_one (W : World) (g o c : Nat) {cur : Array Value} {t : TypeId} (hg : W.heap[g]? = some (.cells cur t (0, 0))) (hfit : o + 3 ≤ cur.size) (ty : TypeId) :
    (Builtin.clear_ #[154] ty #[.slice (some ⟨g, o, none⟩) 1 c]).run Tryz.prog W = .ok (.tuple #[]) (W.setCells g o [.int .u64 0, .int .i64 0, .int .i64 0]) := by
  have hst := run_storeCells_cells (P := Tryz.prog) g o [.int .u64 0, .int .i64 0, .int .i64 0] 0 W (fun j hj => by rw [(cell_plain hg _).1, Array.getElem?_eq_getElem (by simp at hj; omega)]; rfl) (fun j _ => (cell_plain hg _).2) (by simp [Value.oneCell'])
  have hz := zeroE
  have hl : (Builtin.zeroCells (Value.agg #[.int .u64 0, .int .i64 0, .int .i64 0]).cells 1).toList = [.int .u64 0, .int .i64 0, .int .i64 0] := by
    simp [Builtin.zeroCells, Value.cells, List.range_succ]
  simp only [Nat.add_zero] at hst
  simp [Builtin.clear_, run_underlying uS, hz, hl, hst]

set_option maxRecDepth 100000 in
set_option maxHeartbeats 4000000 in
theorem delete_in {w : World} {S g p q m n cap : Nat} {A B : List E} {e : E} (h : CR w S (.slice (some ⟨g, 0, none⟩) n cap) (A ++ e :: B)) (hp : A.length = p) (hq : B.length = q) (hm : m = p + q) (hn : n = m + 1) (hl : n ≤ 64) :
    Calls Tryz.prog 121 #[.slice (some ⟨g, 0, none⟩) n cap, .int .i64 (p : Int), .int .i64 ((p : Int) + 1)] w fun r w' => r = .returned (.slice (some ⟨g, 0, none⟩) m cap) ∧ CR w' S (.slice (some ⟨g, 0, none⟩) m cap) (A ++ B) ∧ w.grownBy w' (some g) := by
  have hnl : (A ++ e :: B).length = n := by simp; omega
  obtain ⟨cur, hS, hg, hcap, hnc, hsz, htk⟩ : ∃ cur, S ≤ g ∧ w.heap[g]? = some (.cells cur 170 (0, 0)) ∧ cap ≤ maxLen ∧ n ≤ cap ∧ cur.size = cap * 3 ∧ cur.toList.take (n * 3) = cells A ++ [.int .u64 (e.k : Int), .int .i64 e.v.1, .int .i64 e.v.2] ++ cells B := by
    rcases h.2 with ⟨e1, _⟩ | ⟨g', cap', cur, e1, h1, h2, h3, h4, h5, h6⟩
    · cases e1
    · cases e1
      rw [hnl] at h3 h6
      exact ⟨cur, h1, h2, h4, h3, h5, by rw [h6, cells_append, cells_cons, List.append_assoc]⟩
  obtain ⟨i0, hi, hz0, hz1, hz2⟩ := info_parts infoE
  have hu := uS
  have hlA : (cells A).length = p * 3 := by rw [cells_len, hp]
  have hlB : (cells B).length = q * 3 := by rw [cells_len, hq]
  have hcl : cur.toList.length = cap * 3 := by simpa using hsz
  obtain ⟨R, hR⟩ : ∃ R, cur.toList = cells A ++ [.int .u64 (e.k : Int), .int .i64 e.v.1, .int .i64 e.v.2] ++ cells B ++ R := ⟨cur.toList.drop (n * 3), by rw [← htk, List.take_append_drop]⟩
  -- what is moved
  obtain ⟨AD, hAD, hsrc⟩ : ∃ AD : Addr, (if cap = p + 1 then some (⟨g, 0, none⟩ : Addr) else some ⟨g, (p + 1) * 3, none⟩) = some AD ∧ Hid (∀ t u, (cells B)[t]? = some u → w.drew.cell? (AD.add t) = some u) := by
    by_cases hc : cap = p + 1
    · refine ⟨⟨g, 0, none⟩, by simp [hc], fun t u hu => ?_⟩
      have : B = [] := List.length_eq_zero_iff.1 (by omega)
      rw [this] at hu
      simp [cells] at hu
    · refine ⟨⟨g, (p + 1) * 3, none⟩, by simp [hc], fun t u hu => ?_⟩
      have hlt := (List.getElem?_eq_some_iff.1 hu).1
      rw [addr_add, (cell_plain (w := w.drew) hg _).1, ← Array.getElem?_toList, hR, List.getElem?_append_left (by simp; omega), List.getElem?_append_right (by simp; omega), ← hu]
      congr 1
      simp
      omega
  have s1 : Hid ((cells B).length = q * 3) := hlB
  have s2 : Hid (∀ u ∈ cells B, u.oneCell' = true) := cells_one B
  have s3 : Hid (∀ t, t < (cells B).length → (w.drew.cell? ⟨g, 0 + p * 3 + t, none⟩).isSome = true ∧ w.drew.frozen? ⟨g, 0 + p * 3 + t, none⟩ = false) := by
    intro t ht
    rw [(cell_plain (w := w.drew) hg _).1, (cell_plain (w := w.drew) hg _).2, Array.getElem?_eq_getElem (by omega)]
    exact ⟨rfl, rfl⟩
  obtain ⟨W1, hW1⟩ : ∃ W, W = w.drew.setCells g (0 + p * 3) (cells B) := ⟨_, rfl⟩
  have hgW : W1.heap[g]? = some (.cells (spl cur (0 + p * 3) (cells B)) 170 (0, 0)) := by rw [hW1]; exact heap_setCells (cells B) w.drew g _ cur _ hg
  have hcl1 := fun ty c => clear_one W1 g (m * 3) c hgW (by rw [spl_size]; omega) ty
  have HE := Lib.hid (show CR (W1.setCells g (m * 3) [.int .u64 0, .int .i64 0, .int .i64 0]) S (.slice (some ⟨g, 0, none⟩) m cap) (A ++ B) ∧ w.grownBy (W1.setCells g (m * 3) [.int .u64 0, .int .i64 0, .int .i64 0]) (some g) from by
    have hch : Ch [g] w (W1.setCells g (m * 3) [.int .u64 0, .int .i64 0, .int .i64 0]) := by
      rw [hW1]
      exact ch_setCells g (.inl (by simp)) _ _ (ch_setCells g (.inl (by simp)) _ _ (Ch.refl _ w).drew)
    refine ⟨⟨by rw [cells_len], .inr ⟨g, cap, _, by rw [show (A ++ B).length = m by simp; omega], hS, heap_setCells _ W1 g _ _ _ hgW, by simp; omega, hcap, by rw [spl_size, spl_size]; exact hsz, ?_⟩⟩, ⟨hch.os, hch.tape, hch.output, hch.size, fun k hk hkg => hch.block k hk (by simpa using hkg)⟩⟩
    rw [spl_list _ _ _ (by rw [spl_size]; simp; omega), spl_list _ _ _ (by omega), hR, Nat.zero_add, ← hlA, show m * 3 = (cells A).length + (cells B).length by omega, cells_append]
    exact cut_listz (cells A) _ (cells B) R _ _ (by simp; omega))
  have hnp1 : n - (p + 1) = q := by omega
  have hpm : p + q = m := hm.symm
  have hpp : ((p : Int) == (p : Int) + 1) = false := by simp; omega
  have hb1 : (0 : Int) ≤ (p : Int) := by omega
  have hb2 : (p : Int) ≤ (p : Int) + 1 := by omega
  have hb3 : (p : Int) + 1 ≤ (n : Int) := by omega
  have hb4 : (0 : Int) ≤ (p : Int) + 1 := by omega
  have hb5 : (n : Int) ≤ (cap : Int) := by omega
  have hb6 : p ≤ cap := by omega
  have hb7 : (m : Int) ≤ (n : Int) := by omega
  have hb8 : ¬ (cap = m) := by omega
  have hb9 : n - m = 1 := by omega
  have htn : ((p : Int) + 1).toNat = p + 1 := by omega
  have HW := Lib.hid hW1
  clear hgW hlA hlB hcl hR htk hsz hg hcap hS hW1 h hp hq hm hn hnl hz0 hz2
  go_enter Tryz.func121, Tryz.ntmps121
  go_wp2_with fail
  go_region_law (refine step_append_room rfl (.tmp 22) (.tmp 25) 154 rfl 170 i0 3 uS hi hz1 g 0 p cap (by simp [Act.eval, Act.put]) AD q (cap - (p + 1)) (cells B) (by simp [Act.eval, Act.put]) s1.out hsrc.out s2.out (by omega) s3.out ?_; rw [← HW.out])
  go_wp2
  go_ret
  exact ⟨rfl, HE.out⟩
end Go.Proofs.YtalhlopjaijhcaaGreat.bH

namespace Go.Proofs.YtalhlopjaijhcaaGreat.bH
open Go.RowKit Go.Shelf

attribute [local go_sem] Oper.semAt_some

/-- Of what there was, the table's own blocks alone may have turned: entries' and chains' heads', from S on. -/
structure Tn (S : Nat) (w w' : World) : Prop where
  os : w'.os = w.os
  tape : w'.tape = w.tape
  output : w'.output = w.output
  size : w.heap.size ≤ w'.heap.size
  low : ∀ k, k < w.heap.size → k < S → w'.heap[k]? = w.heap[k]?
  typ : ∀ (k : Nat) (o : Obj), w.heap[k]? = some o → (∀ cs fr, o ≠ .cells cs 170 fr) → (∀ cs fr, o ≠ .cells cs 154 fr) → w'.heap[k]? = some o
section
variable {S : Nat} {a w w' w2 : World}
theorem Tn.of_ch (h : Ch [] w w') : Tn S w w' := ⟨h.os, h.tape, h.output, h.size, fun k hk _ => h.block k hk (by simp), fun k o hk _ _ => (h.block k (Array.getElem?_eq_some_iff.1 hk).1 (by simp)).trans hk⟩
theorem Tn.trans (h : Tn S w w') (k : Tn S w' w2) : Tn S w w2 :=
  ⟨k.os.trans h.os, k.tape.trans h.tape, k.output.trans h.output, Nat.le_trans h.size k.size, fun i hi hs => (k.low i (Nat.lt_of_lt_of_le hi h.size) hs).trans (h.low i hi hs), fun i o hi h1 h2 => k.typ i o (h.typ i o hi h1 h2) h1 h2⟩
theorem Tn.grown {row : Option Nat} (hg : w.grownBy w' row) (hr : ∀ g, row = some g → S ≤ g ∧ ∃ cs fr, w.heap[g]? = some (.cells cs 170 fr)) : Tn S w w' := by
  refine ⟨hg.os, hg.tape, hg.output, hg.size, fun k hk hs => hg.block k hk (fun e => by have := (hr k e.symm).1; omega), fun k o hk h1 _ => (hg.block k (Array.getElem?_eq_some_iff.1 hk).1 (fun e => ?_)).trans hk⟩
  obtain ⟨_, cs, fr, h2⟩ := hr k e.symm
  rw [hk] at h2
  cases h2
  exact h1 _ _ rfl
theorem Tn.head {K j : Nat} {cs : Array Value} {fr : Nat × Nat} (hK : w.heap[K]? = some (.cells cs 154 fr)) (hS : S ≤ K) (v : Value) : Tn S w (w.setCell ⟨K, j, none⟩ v) := by
  have hc := (Ch.refl [K] w).setCell (p := ⟨K, j, none⟩) (by simp) v
  refine ⟨hc.os, hc.tape, hc.output, hc.size, fun k hk hs => hc.block k hk (by simp; omega), fun k o hk _ h2 => (hc.block k (Array.getElem?_eq_some_iff.1 hk).1 (fun e => ?_)).trans hk⟩
  obtain rfl : k = K := by simpa using e
  rw [hk] at hK
  cases hK
  exact h2 _ _ rfl
theorem Tn.entry {g j : Nat} {cs : Array Value} {fr : Nat × Nat} (hK : w.heap[g]? = some (.cells cs 170 fr)) (hS : S ≤ g) (v : Value) : Tn S w (w.setCell ⟨g, j, none⟩ v) := by
  have hc := (Ch.refl [g] w).setCell (p := ⟨g, j, none⟩) (by simp) v
  refine Tn.grown (row := some g) ⟨hc.os, hc.tape, hc.output, hc.size, fun k hk hne => hc.block k hk (by simpa using hne)⟩ (fun g' e => by cases e; exact ⟨hS, _, _, hK⟩)
theorem Tn.ch (h : Tn S w w') (hc : Ch [] a w) (hS : a.heap.size ≤ S) : Ch [] a w' :=
  ⟨h.os.trans hc.os, h.tape.trans hc.tape, h.output.trans hc.output, Nat.le_trans hc.size h.size, fun k hk _ => (h.low k (Nat.lt_of_lt_of_le hk hc.size) (by omega)).trans (hc.block k hk (by simp))⟩
theorem Tn.row (h : Tn S w w') {b t s n : Nat} {v : Value} {xs : List Value} (hr : w.ownsRow b t s v n xs) (h1 : t ≠ 170) (h2 : t ≠ 154) : w'.ownsRow b t s v n xs := by
  refine ⟨hr.1, ?_⟩
  rcases hr.2 with hn | ⟨g, cap, cur, rfl, hb, hg, rest⟩
  · exact .inl hn
  · exact .inr ⟨g, cap, cur, rfl, hb, h.typ g _ hg (fun cs fr e => by cases e; exact h1 rfl) (fun cs fr e => by cases e; exact h2 rfl), rest⟩
theorem Tn.blk (h : Tn S w w') {g : Nat} {cs : Array Value} {t : TypeId} {fr : Nat × Nat} (hg : w.heap[g]? = some (.cells cs t fr)) (h1 : t ≠ 170) (h2 : t ≠ 154) : w'.heap[g]? = some (.cells cs t fr) :=
  h.typ g _ hg (fun cs fr e => by cases e; exact h1 rfl) (fun cs fr e => by cases e; exact h2 rfl)
end

theorem ne_of_types {W : World} {g B : Nat} {cs ds : Array Value} {t t' : TypeId} {fr gr : Nat × Nat} (h1 : W.heap[g]? = some (.cells cs t fr)) (h2 : W.heap[B]? = some (.cells ds t' gr)) (h : t ≠ t') : B ≠ g := by
  rintro rfl
  rw [h1] at h2
  cases h2
  exact h rfl
/-- A cell that is none of the table's own turns. -/
theorem TB.other {S R K n room : Nat} {H : Nat → Value} {L : List E} {w : World} (h : TB w S R K n room H L) {B : Nat} {ds : Array Value} {t : TypeId} {gr : Nat × Nat} (hB : w.heap[B]? = some (.cells ds t gr)) (h1 : t ≠ 170) (h2 : t ≠ 154) (h3 : t ≠ 135) (o : Nat) (v : Value) : TB (w.setCell ⟨B, o, none⟩ v) S R K n room H L := by
  have hset := grown_set w B o v
  have hR : R ≠ B := fun e => ne_of_types h.blk hB (fun e => h3 e.symm) e.symm
  refine ⟨(Below.heap_setCell _ _ _ _ hR).trans h.blk, ?_, fun b hb => ?_, h.apart, h.rS, h.nd, h.hn, h.hr, h.hl⟩
  · refine h.heads.kept hset (.inr (fun e => ?_))
    rcases h.heads.2 with ⟨e2, _⟩ | ⟨g', cap, cur, e2, _, hg, _⟩
    · cases e2
    · cases e2
      cases e
      exact ne_of_types hg hB (fun e => h2 e.symm) rfl
  · refine (h.rows b hb).kept hset ?_
    rcases (h.rows b hb).2 with ⟨e2, _⟩ | ⟨g', cap, cur, e2, _, hg, _⟩
    · left; rw [e2]; rfl
    · right
      rw [e2]
      intro e
      cases e
      exact ne_of_types hg hB (fun e => h1 e.symm) rfl
theorem TB.ck {S R K n room : Nat} {H : Nat → Value} {L : List E} {w w' : World} (h : TB w S R K n room H L) (hk : CK w w') : TB w' S R K n room H L :=
  ⟨hk _ _ _ _ h.blk, hk.row h.heads, fun b hb => hk.row (h.rows b hb), h.apart, h.rS, h.nd, h.hn, h.hr, h.hl⟩
theorem TGR.ck {S n room : Nat} {p : Option Addr} {L : List E} {w w' : World} (h : TGR w S p n room L) (hk : CK w w') : TGR w' S p n room L := by
  rcases h with h | ⟨R, K, H, h1, h2⟩
  · exact .inl h
  · exact .inr ⟨R, K, H, h1, h2.ck hk⟩
theorem Tn.later {S : Nat} {w W1 W2 : World} (h : Tn S w W1) {row : Option Nat} (hg : W1.grownBy W2 row) (hr : ∀ r, row = some r → w.heap.size ≤ r) : Tn S w W2 :=
  have hb : ∀ k, k < w.heap.size → W2.heap[k]? = W1.heap[k]? := fun k hk => hg.block k (Nat.lt_of_lt_of_le hk h.size) (fun e => by have := hr k e.symm; omega)
  ⟨hg.os.trans h.os, hg.tape.trans h.tape, hg.output.trans h.output, Nat.le_trans h.size hg.size, fun k hk hs => (hb k hk).trans (h.low k hk hs), fun k o hk h1 h2 => (hb k (Array.getElem?_eq_some_iff.1 hk).1).trans (h.typ k o hk h1 h2)⟩
theorem Tn.below {S : Nat} {w W1 W2 : World} (h : Tn S w W1) (hb : Below w.heap.size W1 W2) : Tn S w W2 :=
  ⟨hb.os.trans h.os, hb.tape.trans h.tape, hb.output.trans h.output, Nat.le_trans h.size hb.size, fun k hk hs => (hb.block k hk).trans (h.low k hk hs), fun k o hk h1 h2 => (hb.block k (Array.getElem?_eq_some_iff.1 hk).1).trans (h.typ k o hk h1 h2)⟩
theorem Tn.set {S : Nat} {w W1 : World} (h : Tn S w W1) {B : Nat} (hB : w.heap.size ≤ B) (v : Value) : Tn S w (W1.setCell ⟨B, 0, none⟩ v) := h.later (row := some B) (grown_set W1 B 0 v) (fun r e => by cases e; exact hB)
/-- A chain turned. -/
def updH (H : Nat → Value) (b : Nat) (v : Value) : Nat → Value := fun i => if i = b then v else H i
theorem heads_upd (H : Nat → Value) (n b : Nat) (v : Value) : ((List.range n).map H).set b v = (List.range n).map (updH H b v) := by
  apply List.ext_getElem?
  intro i
  rw [List.getElem?_set]
  by_cases hi : i < n
  · by_cases e : b = i
    · subst e; simp [hi, updH]
    · have e' : ¬ i = b := fun h => e h.symm
      simp [hi, updH, e, e']
  · by_cases e : b = i
    · subst e; simp [hi]
    · simp [hi, e]
theorem row_blk {w : World} {S : Nat} {v : Value} {C : List E} (h : CR w S v C) : ∀ g, v.ownBlock = some g → S ≤ g ∧ ∃ cs fr, w.heap[g]? = some (.cells cs 170 fr) := by
  intro g hg
  rcases h.2 with ⟨e, _⟩ | ⟨g', cap, cur, e, h1, h2, _⟩
  · rw [e] at hg; cases hg
  · rw [e] at hg
    obtain rfl : g' = g := by simpa [Value.ownBlock] using hg
    exact ⟨h1, _, _, h2⟩
section
variable {w w4 : World} {S R K n room : Nat} {H : Nat → Value} {L L' : List E}
theorem TB.headsBlk (h : TB w S R K n room H L) : S ≤ K ∧ ∃ cs fr, w.heap[K]? = some (.cells cs 154 fr) := by
  rcases h.heads.2 with ⟨e, _⟩ | ⟨g', cap, cur, e, h1, h2, _⟩
  · cases e
  · cases e; exact ⟨h1, _, _, h2⟩
/-- What still stands behind a chain's turn. -/
theorem TB.still (h : TB w S R K n room H L) {b : Nat} (hb : b < n) (hg : w.grownBy w4 (H b).ownBlock) : w4.cell? ⟨R, 1, none⟩ = some (.slice (some ⟨K, 0, none⟩) n n) ∧ w4.cell? ⟨K, b, none⟩ = some (H b) ∧ w4.frozen? ⟨K, b, none⟩ = false :=
  have hR : w4.heap[R]? = w.heap[R]? := hg.block R h.lt.1 (fun e => h.rH hb e.symm)
  have hK : w4.heap[K]? = w.heap[K]? := hg.block K h.lt.2.1 (fun e => h.kH hb e.symm)
  ⟨(World.cell?_of_block (a := ⟨R, 1, none⟩) hR).trans h.c1, (World.cell?_of_block (a := ⟨K, b, none⟩) hK).trans (h.head hb).1, (World.frozen?_of_block (a := ⟨K, b, none⟩) hK).trans (h.head hb).2⟩
/-- A chain is put in another's place. -/
theorem TB.upd (h : TB w S R K n room H L) {b : Nat} (hb : b < n) {v' : Value} (hch : ∀ i, i ≠ b → chn n i L' = chn n i L) (hrow : CR w4 S v' (chn n b L')) (hg : w.grownBy w4 (H b).ownBlock) (hat : v'.ownBlock = (H b).ownBlock ∨ ∃ g, v'.ownBlock = some g ∧ w.heap.size ≤ g)
    (hnd : (ksE L').Nodup) (hl : L'.length ≤ room) : TB (w4.setCell ⟨K, b, none⟩ v') S R K n room (updH H b v') L' ∧ Tn S w (w4.setCell ⟨K, b, none⟩ v') := by
  have hR : w4.heap[R]? = w.heap[R]? := hg.block R h.lt.1 (fun e => h.rH hb e.symm)
  have hheads : w4.ownsRow S 154 1 (.slice (some ⟨K, 0, none⟩) n n) n ((List.range n).map H) := h.heads.kept hg (.inr (fun e => h.kH hb e.symm))
  have hvK : v'.ownBlock ≠ some K := by
    rcases own_apart hrow hheads (by decide) with e | e
    · rw [e]; simp
    · exact e
  have hset : w4.grownBy (w4.setCell ⟨K, b, none⟩ v') (some K) := grown_set w4 K b v'
  have hKb : ∃ cs fr, w4.heap[K]? = some (.cells cs 154 fr) := by
    rcases hheads.2 with ⟨e, _⟩ | ⟨g', cap, cur, e, h1, h2, _⟩
    · cases e
    · cases e; exact ⟨_, _, h2⟩
  refine ⟨⟨?_, ?_, fun i hi => ?_, fun i j hi hj hij => ?_, h.rS, hnd, h.hn, h.hr, hl⟩, ?_⟩
  · rw [Below.heap_setCell _ _ _ _ (show R ≠ K from h.rK), hR]; exact h.blk
  · have := own_set hheads b v' (by omega)
    rwa [heads_upd] at this
  · by_cases e : i = b
    · subst e
      have : updH H i v' i = v' := by simp [updH]
      rw [this]
      exact hrow.kept hset (.inr hvK)
    · have : updH H b v' i = H i := by simp [updH, e]
      rw [this, hch i e]
      refine ((h.rows i hi).kept hg ?_).kept hset (.inr (h.kH hi))
      exact h.apart i b hi hb e
  · by_cases e : i = b
    · subst e
      have e2 : ¬ j = i := fun h => hij h.symm
      have h1 : updH H i v' i = v' := by simp [updH]
      have h2 : updH H i v' j = H j := by simp [updH, e2]
      rw [h1, h2]
      rcases hat with hat | ⟨g, hat, hge⟩
      · rw [hat]; exact h.apart i j hi hj hij
      · right
        rw [hat]
        intro e3
        have := ((h.rows j hj).lt g e3.symm).2
        omega
    · have h1 : updH H b v' i = H i := by simp [updH, e]
      rw [h1]
      by_cases e2 : j = b
      · subst e2
        have h2 : updH H j v' j = v' := by simp [updH]
        rw [h2]
        rcases hat with hat | ⟨g, hat, hge⟩
        · rw [hat]; exact h.apart i j hi hj hij
        · right
          rw [hat]
          intro e3
          have := ((h.rows i hi).lt g e3).2
          omega
      · have h2 : updH H b v' j = H j := by simp [updH, e2]
        rw [h2]
        exact h.apart i j hi hj hij
  · obtain ⟨cs, fr, hk⟩ := hKb
    exact (Tn.grown hg (row_blk (h.rows b hb))).trans (Tn.head hk h.headsBlk.1 v')
end
end Go.Proofs.YtalhlopjaijhcaaGreat.bH
