/-
  Contracts of the document's answer for layer 1: Bits, Word, Put.
-/
import Derived.Test.YtadogffllkompaaDoorMaskC
import Derived.Below
import Derived.RangeFuncBox
import Derived.Deep.DeepMust
namespace Go.Proofs.YtadogffllkompaaDoor.Mk
open Go.RowKit

/-- A slice of 64 bools that lies at the head of block g. -/
def BA (w : World) (g cap : Nat) (bs : List Bool) : Prop := w.ownsRow 0 4 1 (.slice (some ⟨g, 0, none⟩) 64 cap) 64 (bs.map Value.bool)

theorem BA.len {w : World} {g cap : Nat} {bs : List Bool} (h : BA w g cap bs) : bs.length = 64 := by simpa using h.1
theorem BA.lt {w : World} {g cap : Nat} {bs : List Bool} (h : BA w g cap bs) : g < w.heap.size := (World.ownsRow.lt h g rfl).2
theorem BA.cell {w : World} {g cap : Nat} {bs : List Bool} (h : BA w g cap bs) (i : Nat) (hi : i < 64) : w.cell? ⟨g, i, none⟩ = some (.bool (bs[i]?.getD false)) := by
  have e := World.ownsRow.cellAt h i (by omega)
  rw [e]
  have hl := h.len
  simp [hl, hi]
theorem BA.free {w : World} {g cap : Nat} {bs : List Bool} (h : BA w g cap bs) (i : Nat) : w.frozen? ⟨g, i, none⟩ = false := World.ownsRow.frozenAt h i
theorem BA.set {w : World} {g cap : Nat} {bs : List Bool} (h : BA w g cap bs) (i : Nat) (v : Bool) : BA (w.setCell ⟨g, i, none⟩ (.bool v)) g cap (bs.set i v) := by
  have := (World.ownsRow.stored h i (.bool v)).1
  unfold BA
  rwa [List.map_set]
theorem own_base {w : World} {b e s : Nat} {v : Value} {n : Nat} {xs : List Value} (h : w.ownsRow b e s v n xs) : w.ownsRow 0 e s v n xs := by
  obtain ⟨h1, h2⟩ := h
  refine ⟨h1, ?_⟩
  rcases h2 with h2 | ⟨g, cap, cur, hv, hb, r⟩
  · exact .inl h2
  · exact .inr ⟨g, cap, cur, hv, Nat.zero_le _, r⟩
theorem own_below {w w' : World} {B b e s : Nat} {v : Value} {n : Nat} {xs : List Value} (h : w.ownsRow b e s v n xs) (hB : Below B w w') (hv : ∀ g, v.ownBlock = some g → g < B) : w'.ownsRow b e s v n xs := by
  obtain ⟨h1, h2⟩ := h
  refine ⟨h1, ?_⟩
  rcases h2 with h2 | ⟨g, cap, cur, rfl, hb, hg, r⟩
  · exact .inl h2
  · exact .inr ⟨g, cap, cur, rfl, hb, (hB.block g (hv g rfl)).trans hg, r⟩
theorem BA.below {w w' : World} {B g cap : Nat} {bs : List Bool} (h : BA w g cap bs) (hB : Below B w w') (hg : g < B) : BA w' g cap bs :=
  own_below h hB (fun g' e => by cases e; exact hg)
theorem cell_lt {w : World} {p : Addr} {v : Value} (h : w.cell? p = some v) : p.block < w.heap.size := by
  apply Nat.lt_of_not_le
  intro hle
  simp [World.cell?, Array.getElem?_eq_none hle] at h
theorem IntsAt.later {w w' : World} {a : Option Addr} {zs : List Int} (h : IntsAt w a zs) (hB : Below w.heap.size w w') : IntsAt w' a zs := by
  rcases h with rfl | ⟨b, off, rfl, hc⟩
  · exact .inl rfl
  · exact .inr ⟨b, off, rfl, fun i hi => (hB.cell (p := ⟨b, off + i, none⟩) (cell_lt (hc i hi))).trans (hc i hi)⟩

theorem wu' (a : Int) (h : 0 ≤ a ∧ a < 18446744073709551616) : IntKind.u64.wrap a = a := by rw [IntKind.wrap_u64]; omega

theorem infoBool : (Tryd.prog.info? 4).map (fun i => (i.zero, i.size, i.bytes)) = some (some (.bool false), 1, 1) := by kernel_rfl

/-- The bits of a word. -/
def bl (x : Nat) : List Bool := (List.range 64).map x.testBit
/-- ... the first k of them, then false. -/
def blTo (x k : Nat) : List Bool := (List.range 64).map fun i => decide (i < k) && x.testBit i
theorem blTo_zero (x : Nat) : blTo x 0 = List.replicate 64 false := by
  apply List.ext_getElem (by simp [blTo])
  intro i h1 h2
  rw [List.getElem_replicate]
  simp [blTo]
theorem blTo_full (x : Nat) : blTo x 64 = bl x := by
  apply List.ext_getElem (by simp [blTo, bl])
  intro i h1 h2
  simp [blTo] at h1
  simp [blTo, bl, h1]
theorem blTo_succ (x k : Nat) : blTo x (k + 1) = (blTo x k).set k (x.testBit k) := by
  apply List.ext_getElem (by simp [blTo])
  intro i h1 h2
  simp [blTo] at h1
  rw [List.getElem_set]
  by_cases e : k = i
  · subst e; simp [blTo]
  · have e2 : (i < k + 1) ↔ (i < k) := by omega
    simp [blTo, e, e2]

theorem made_bools : (madeCells (Value.bool false).cells (64 * 1)).toList = (List.replicate 64 false).map Value.bool := by kernel_rfl

/-- The word of a list of bits. -/
def wordN (bs : List Bool) : Nat := bs.foldr (fun b w => w * 2 + b.toNat) 0
theorem wordN_lt : ∀ (bs : List Bool), wordN bs < 2 ^ bs.length
  | [] => by simp [wordN]
  | b :: r => by
    have := wordN_lt r
    have hb : b.toNat ≤ 1 := by cases b <;> simp
    show wordN r * 2 + b.toNat < 2 ^ (r.length + 1)
    rw [Nat.pow_succ]
    omega
theorem wordN_drop (bs : List Bool) (j : Nat) (h : j < bs.length) : wordN (bs.drop j) = wordN (bs.drop (j + 1)) * 2 + (bs[j]?.getD false).toNat := by
  rw [List.drop_eq_getElem_cons h, List.getElem?_eq_getElem h]
  rfl
theorem wordN_drop_lt (bs : List Bool) (j : Nat) (hl : bs.length = 64) : wordN (bs.drop (j + 1)) < 9223372036854775808 := by
  have h := wordN_lt (bs.drop (j + 1))
  have h2 : 2 ^ (bs.drop (j + 1)).length ≤ 2 ^ 63 := Nat.pow_le_pow_right (by decide) (by simp [hl])
  omega

set_option maxHeartbeats 400000 in
theorem word_any (g cap : Nat) (bs : List Bool) (w : World) (hb : BA w g cap bs) :
    Calls Tryd.prog 16 #[.slice (some ⟨g, 0, none⟩) 64 cap] w fun e w' => e = .returned (.int .u64 ((wordN bs : Nat) : Int)) ∧ w = w' := by
  have HB := Lib.hid hb
  clear hb
  go_enter Tryd.func16, Tryd.ntmps16
  go_wp2
  go_loop [3, 4] (fun v i => ∃ k n : Nat, k ≤ 64 ∧ i = .int .i64 ((k : Int) - 1) ∧ v = .int .u64 (n : Int) ∧ n = wordN (bs.drop k)) (fun _ i => (intOf i + 1).toNat)
  case atStart => exact ⟨64, 0, by omega, rfl, rfl, by rw [List.drop_of_length_le (by rw [HB.out.len]; exact Nat.le_refl _)]; rfl⟩
  case round =>
    obtain ⟨k, n, hk, rfl, rfl, hn⟩ := hrel
    have HN := Lib.hid hn
    clear hn
    cases k with
    | zero =>
      go_wp2
      go_ret
      exact ⟨by rw [HN.out]; rfl, rfl⟩
    | succ j =>
      have e : (((j + 1 : Nat) : Int) - 1) = (j : Int) := by omega
      rw [e]
      clear e
      have hc := HB.out.cell j (by omega)
      have hlt := wordN_drop_lt bs j HB.out.len
      rw [← HN.out] at hlt
      have HD := Lib.hid (wordN_drop bs j (by rw [HB.out.len]; omega))
      generalize bs[j]?.getD false = b at hc HD
      have w1 : IntKind.u64.wrap ((n : Int) * 2) = (n : Int) * 2 := wu' _ (by omega)
      have w2 : IntKind.u64.wrap ((n : Int) * 2 + 1) = (n : Int) * 2 + 1 := wu' _ (by omega)
      cases b
      · go_wp2
        go_round
        case rel => exact ⟨j, n * 2, by omega, rfl, by go_num, by rw [HD.out, HN.out]; rfl⟩
        case measure => simp [intOf]
      · go_wp2
        go_round
        case rel => exact ⟨j, n * 2 + 1, by omega, rfl, by go_num, by rw [HD.out, HN.out]; rfl⟩
        case measure => simp [intOf]

/-- The list with (or without) these numbers. -/
def putB (bs : List Bool) (zs : List Int) (v : Bool) : List Bool := zs.foldl (fun b i => if 0 ≤ i ∧ i < 64 then b.set i.toNat v else b) bs

theorem infoInt : (Tryd.prog.info? 3).map (fun i => (i.zero, i.size, i.bytes)) = some (some (.int .i64 0), 1, 8) := by kernel_rfl

theorem add_head (g j : Nat) : (⟨g, 0, none⟩ : Addr).add j = ⟨g, j, none⟩ := by
  unfold Addr.add
  split <;> simp_all

theorem putB_snoc (bs : List Bool) (zs : List Int) (v : Bool) (k : Nat) (h : k < zs.length) : putB bs (zs.take (k + 1)) v =
    if 0 ≤ zs[k]?.getD 0 ∧ zs[k]?.getD 0 < 64 then (putB bs (zs.take k) v).set (zs[k]?.getD 0).toNat v else putB bs (zs.take k) v := by
  unfold putB
  rw [List.take_succ_eq_append_getElem h, List.foldl_append]
  simp [h]

end Go.Proofs.YtadogffllkompaaDoor.Mk
