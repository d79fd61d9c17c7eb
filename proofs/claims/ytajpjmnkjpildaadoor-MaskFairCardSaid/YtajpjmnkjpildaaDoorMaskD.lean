/-
  Contracts of the document's answer for layer 1: Bits, Word, Put.
-/
import Derived.Test.YtajpjmnkjpildaaDoorMaskC
import Derived.Below
import Derived.RangeFuncBox
import Derived.Deep.DeepMust
namespace Go.Proofs.YtajpjmnkjpildaaDoor
open Go.RowKit

/-- A slice of 64 bools that lies at the head of block g. -/
def BA (w : World) (g cap : Nat) (bs : List Bool) : Prop := w.ownsRow 0 4 1 (.slice (some ⟨g, 0, none⟩) 64 cap) 64 (bs.map Value.bool)

theorem BA.len {w : World} {g cap : Nat} {bs : List Bool} (h : BA w g cap bs) : bs.length = 64 := by simpa using h.1
theorem BA.lt {w : World} {g cap : Nat} {bs : List Bool} (h : BA w g cap bs) : g < w.heap.size := (World.ownsRow.lt h g rfl).2
theorem BA.cell {w : World} {g cap : Nat} {bs : List Bool} (h : BA w g cap bs) (i : Nat) (hi : i < 64) : w.cell? ⟨g, i, none⟩ = some (.bool (bs[i]?.getD false)) := by
  have e := World.ownsRow.cellAt h i (by omega)
  rw [e]
  have hl := h.len
  simp [hl, hi]
theorem BA.free {w : World} {g cap : Nat} {bs : List Bool} (h : BA w g cap bs) (i : Nat) : w.frozen? ⟨g, i, none⟩ = false := World.ownsRow.frozenAt h i
theorem BA.set {w : World} {g cap : Nat} {bs : List Bool} (h : BA w g cap bs) (i : Nat) (v : Bool) : BA (w.setCell ⟨g, i, none⟩ (.bool v)) g cap (bs.set i v) := by
  have := (World.ownsRow.stored h i (.bool v)).1
  unfold BA
  rwa [List.map_set]
theorem own_base {w : World} {b e s : Nat} {v : Value} {n : Nat} {xs : List Value} (h : w.ownsRow b e s v n xs) : w.ownsRow 0 e s v n xs := by
  obtain ⟨h1, h2⟩ := h
  refine ⟨h1, ?_⟩
  rcases h2 with h2 | ⟨g, cap, cur, hv, hb, r⟩
  · exact .inl h2
  · exact .inr ⟨g, cap, cur, hv, Nat.zero_le _, r⟩
theorem own_below {w w' : World} {B b e s : Nat} {v : Value} {n : Nat} {xs : List Value} (h : w.ownsRow b e s v n xs) (hB : Below B w w') (hv : ∀ g, v.ownBlock = some g → g < B) : w'.ownsRow b e s v n xs := by
  obtain ⟨h1, h2⟩ := h
  refine ⟨h1, ?_⟩
  rcases h2 with h2 | ⟨g, cap, cur, rfl, hb, hg, r⟩
  · exact .inl h2
  · exact .inr ⟨g, cap, cur, rfl, hb, (hB.block g (hv g rfl)).trans hg, r⟩
theorem BA.below {w w' : World} {B g cap : Nat} {bs : List Bool} (h : BA w g cap bs) (hB : Below B w w') (hg : g < B) : BA w' g cap bs :=
  own_below h hB (fun g' e => by cases e; exact hg)
theorem cell_lt {w : World} {p : Addr} {v : Value} (h : w.cell? p = some v) : p.block < w.heap.size := by
  apply Nat.lt_of_not_le
  intro hle
  simp [World.cell?, Array.getElem?_eq_none hle] at h
theorem IntsAt.later {w w' : World} {a : Option Addr} {zs : List Int} (h : IntsAt w a zs) (hB : Below w.heap.size w w') : IntsAt w' a zs := by
  rcases h with rfl | ⟨b, off, rfl, hc⟩
  · exact .inl rfl
  · exact .inr ⟨b, off, rfl, fun i hi => (hB.cell (p := ⟨b, off + i, none⟩) (cell_lt (hc i hi))).trans (hc i hi)⟩

theorem wu' (a : Int) (h : 0 ≤ a ∧ a < 18446744073709551616) : IntKind.u64.wrap a = a := by rw [IntKind.wrap_u64]; omega

theorem infoBool : (Tryd.prog.info? 4).map (fun i => (i.zero, i.size, i.bytes)) = some (some (.bool false), 1, 1) := by kernel_rfl

/-- The bits of a word. -/
def bl (x : Nat) : List Bool := (List.range 64).map x.testBit
/-- ... the first k of them, then false. -/
def blTo (x k : Nat) : List Bool := (List.range 64).map fun i => decide (i < k) && x.testBit i
theorem blTo_zero (x : Nat) : blTo x 0 = List.replicate 64 false := by
  apply List.ext_getElem (by simp [blTo])
  intro i h1 h2
  rw [List.getElem_replicate]
  simp [blTo]
theorem blTo_full (x : Nat) : blTo x 64 = bl x := by
  apply List.ext_getElem (by simp [blTo, bl])
  intro i h1 h2
  simp [blTo] at h1
  simp [blTo, bl, h1]
theorem blTo_succ (x k : Nat) : blTo x (k + 1) = (blTo x k).set k (x.testBit k) := by
  apply List.ext_getElem (by simp [blTo])
  intro i h1 h2
  simp [blTo] at h1
  rw [List.getElem_set]
  by_cases e : k = i
  · subst e; simp [blTo]
  · have e2 : (i < k + 1) ↔ (i < k) := by omega
    simp [blTo, e, e2]

theorem made_bools : (madeCells (Value.bool false).cells (64 * 1)).toList = (List.replicate 64 false).map Value.bool := by kernel_rfl

set_option maxHeartbeats 400000 in
theorem bits_any (x : Nat) (hx : x < 18446744073709551616) (w : World) :
    Calls Tryd.prog 12 #[.int .u64 (x : Int)] w fun e w' => ∃ g, e = .returned (.slice (some ⟨g, 0, none⟩) 64 64) ∧ BA w' g 64 (bl x) ∧ w.heap.size ≤ g ∧ Below w.heap.size w w' := by
  obtain ⟨i0, hi, hz0, hz1, hz2⟩ := info_parts infoBool
  have HX := Lib.hid hx
  clear hx
  go_enter Tryd.func12, Tryd.ntmps12
  go_wp2_with (at_make; refine wpList_make_full _ rfl _ _ 26 rfl w.heap.size 4 i0 (.bool false) 1 Tryd.underlying26 hi hz0 hz1 _ _ _ _ 64 rfl rfl rfl rfl (by rw [hz2]; decide) (by unfold maxLen; decide) (Nat.le_refl _) ?_; intro w1 hown hgrow)
  have hBA0 : BA w1 w.heap.size 64 (blTo x 0) := by rw [blTo_zero]; unfold BA; rw [← made_bools]; exact own_base hown
  have hB0 : Below w.heap.size w w1 := (Below.refl _ _).grown hgrow (Nat.le_refl _) (fun k e => by cases e)
  obtain ⟨G, hG⟩ : ∃ G, G = w.heap.size := ⟨_, rfl⟩
  rw [← hG] at hBA0 hB0 ⊢
  have HG := Lib.hid hG
  clear hown hgrow hG hi hz0 hz1 hz2
  go_wp2
  go_loopw [0, 4] (fun m i wr => ∃ k y : Nat, k ≤ 64 ∧ i = .int .i64 k ∧ m = .int .u64 y ∧ y = x / 2 ^ k ∧ BA wr G 64 (blTo x k) ∧ Below G w wr) (fun _ i _ => 64 - (intOf i).toNat)
  case atStart => exact ⟨0, x, by omega, rfl, rfl, by simp, hBA0, hB0⟩
  case round =>
    obtain ⟨k, y, hk, rfl, rfl, hy, hBA, hB⟩ := hrel
    have HY := Lib.hid hy
    have HBA := Lib.hid hBA
    have HB := Lib.hid hB
    have hyl : y < 18446744073709551616 := by have : x / 2 ^ k ≤ x := Nat.div_le_self _ _; have := HX.out; omega
    clear hy hBA hB
    by_cases hlt : k < 64
    · have hc := HBA.out.cell k hlt
      have hf := HBA.out.free k
      go_wp2
      go_roundw
      case rel => 
        have e : ((y : Int) % 2 == 1) = x.testBit k := by
          rw [Nat.testBit_eq_decide_div_mod_eq, ← HY.out]
          cases h : decide (y % 2 = 1) <;> simp at h ⊢ <;> omega
        exact ⟨k + 1, y / 2, by omega, by go_num, by go_num, by rw [HY.out, Nat.div_div_eq_div_mul, Nat.pow_succ], by rw [e, blTo_succ]; exact HBA.out.set k _, HB.out.setCell (p := ⟨G, k, none⟩) (Nat.le_refl _) _⟩
      case measure => simp [intOf]; omega
    · go_wp2
      go_ret
      have hk64 : k = 64 := by omega
      subst hk64
      exact ⟨G, rfl, by rw [← blTo_full]; exact HBA.out, by rw [HG.out]; exact Nat.le_refl _, by rw [← HG.out]; exact HB.out⟩

/-- The word of a list of bits. -/
def wordN (bs : List Bool) : Nat := bs.foldr (fun b w => w * 2 + b.toNat) 0
theorem wordN_lt : ∀ (bs : List Bool), wordN bs < 2 ^ bs.length
  | [] => by simp [wordN]
  | b :: r => by
    have := wordN_lt r
    have hb : b.toNat ≤ 1 := by cases b <;> simp
    show wordN r * 2 + b.toNat < 2 ^ (r.length + 1)
    rw [Nat.pow_succ]
    omega
theorem wordN_drop (bs : List Bool) (j : Nat) (h : j < bs.length) : wordN (bs.drop j) = wordN (bs.drop (j + 1)) * 2 + (bs[j]?.getD false).toNat := by
  rw [List.drop_eq_getElem_cons h, List.getElem?_eq_getElem h]
  rfl
theorem wordN_drop_lt (bs : List Bool) (j : Nat) (hl : bs.length = 64) : wordN (bs.drop (j + 1)) < 9223372036854775808 := by
  have h := wordN_lt (bs.drop (j + 1))
  have h2 : 2 ^ (bs.drop (j + 1)).length ≤ 2 ^ 63 := Nat.pow_le_pow_right (by decide) (by simp [hl])
  omega

set_option maxHeartbeats 400000 in
theorem word_any (g cap : Nat) (bs : List Bool) (w : World) (hb : BA w g cap bs) :
    Calls Tryd.prog 15 #[.slice (some ⟨g, 0, none⟩) 64 cap] w fun e w' => e = .returned (.int .u64 ((wordN bs : Nat) : Int)) ∧ w = w' := by
  have HB := Lib.hid hb
  clear hb
  go_enter Tryd.func15, Tryd.ntmps15
  go_wp2
  go_loop [3, 4] (fun v i => ∃ k n : Nat, k ≤ 64 ∧ i = .int .i64 ((k : Int) - 1) ∧ v = .int .u64 (n : Int) ∧ n = wordN (bs.drop k)) (fun _ i => (intOf i + 1).toNat)
  case atStart => exact ⟨64, 0, by omega, rfl, rfl, by rw [List.drop_of_length_le (by rw [HB.out.len]; exact Nat.le_refl _)]; rfl⟩
  case round =>
    obtain ⟨k, n, hk, rfl, rfl, hn⟩ := hrel
    have HN := Lib.hid hn
    clear hn
    cases k with
    | zero =>
      go_wp2
      go_ret
      exact ⟨by rw [HN.out]; rfl, rfl⟩
    | succ j =>
      have e : (((j + 1 : Nat) : Int) - 1) = (j : Int) := by omega
      rw [e]
      clear e
      have hc := HB.out.cell j (by omega)
      have hlt := wordN_drop_lt bs j HB.out.len
      rw [← HN.out] at hlt
      have HD := Lib.hid (wordN_drop bs j (by rw [HB.out.len]; omega))
      generalize bs[j]?.getD false = b at hc HD
      have w1 : IntKind.u64.wrap ((n : Int) * 2) = (n : Int) * 2 := wu' _ (by omega)
      have w2 : IntKind.u64.wrap ((n : Int) * 2 + 1) = (n : Int) * 2 + 1 := wu' _ (by omega)
      cases b
      · go_wp2
        go_round
        case rel => exact ⟨j, n * 2, by omega, rfl, by go_num, by rw [HD.out, HN.out]; rfl⟩
        case measure => simp [intOf]
      · go_wp2
        go_round
        case rel => exact ⟨j, n * 2 + 1, by omega, rfl, by go_num, by rw [HD.out, HN.out]; rfl⟩
        case measure => simp [intOf]

/-- The list with (or without) these numbers. -/
def putB (bs : List Bool) (zs : List Int) (v : Bool) : List Bool := zs.foldl (fun b i => if 0 ≤ i ∧ i < 64 then b.set i.toNat v else b) bs

theorem infoInt : (Tryd.prog.info? 3).map (fun i => (i.zero, i.size, i.bytes)) = some (some (.int .i64 0), 1, 8) := by kernel_rfl

theorem add_head (g j : Nat) : (⟨g, 0, none⟩ : Addr).add j = ⟨g, j, none⟩ := by
  unfold Addr.add
  split <;> simp_all

theorem putB_snoc (bs : List Bool) (zs : List Int) (v : Bool) (k : Nat) (h : k < zs.length) : putB bs (zs.take (k + 1)) v =
    if 0 ≤ zs[k]?.getD 0 ∧ zs[k]?.getD 0 < 64 then (putB bs (zs.take k) v).set (zs[k]?.getD 0).toNat v else putB bs (zs.take k) v := by
  unfold putB
  rw [List.take_succ_eq_append_getElem h, List.foldl_append]
  simp [h]

set_option maxHeartbeats 1000000 in
theorem put_any (g cap : Nat) (bs : List Bool) (a : Option Addr) (cap2 : Nat) (zs : List Int) (v : Bool) (w : World) (hb : BA w g cap bs) (hl : zs.length ≤ 9223372036854775807) (hz : IntsAt w a zs) :
    Calls Tryd.prog 11 #[.slice (some ⟨g, 0, none⟩) 64 cap, .slice a zs.length cap2, .bool v] w fun e w' => ∃ g' cap', e = .returned (.slice (some ⟨g', 0, none⟩) 64 cap') ∧ BA w' g' cap' (putB bs zs v) ∧ w.heap.size ≤ g' ∧ Below w.heap.size w w' := by
  obtain ⟨i0, hi, hz0, hz1, hz2⟩ := info_parts infoBool
  obtain ⟨n, hn⟩ : ∃ n, n = zs.length := ⟨_, rfl⟩
  rw [← hn] at hl ⊢
  have HN := Lib.hid hn
  have HZ := Lib.hid hz
  have HB0 := Lib.hid hb
  have hbl := hb.len
  have HBL := Lib.hid hbl
  have hlt := hb.lt
  clear hn hz hbl hb
  go_enter Tryd.func11, Tryd.ntmps11
  go_wp2_with (at_builtin; go_must (refine wpList_append_own _ rfl _ _ 26 rfl w.heap.size 4 i0 (.bool false) 1 1 Tryd.underlying26 hi hz0 hz1 hz2 rfl (by decide) (.slice (some ⟨w.heap.size, 0, none⟩) 0 0) 0 [] rfl ?c0 ⟨g, 0, none⟩ 64 cap (bs.map Value.bool) rfl ?c1 ?c2 ?c3 ?c4 ?c5 ?c6 ?_))
  case c0 => exact World.ownsRow_lit w #[] 0 (Nat.le_refl _) (Nat.zero_le _) rfl
  case c1 => simp [HBL.out]
  case c2 =>
    intro j u hu
    have h1 := World.ownsRow.cells HB0.out (g := g) rfl j u hu
    rw [add_head] at h1 ⊢
    rw [World.cell?_alloc_past _ _ _ hlt]
    exact h1
  case c3 => intro u hu; obtain ⟨b, _, rfl⟩ := List.mem_map.1 hu; rfl
  case c4 => unfold maxLen; decide
  case c5 => decide
  case c6 => simp
  intro v' w1 hown hgrow _
  obtain ⟨g', cap', rfl⟩ := ownsRow_succ (k := 63) hown
  have hg' : w.heap.size ≤ g' := (hown.lt g' rfl).1
  have hBA0 : BA w1 g' cap' (putB bs (zs.take 0) v) := own_base hown
  have hB0 : Below w.heap.size w w1 := ((Below.refl _ _).alloc (Nat.le_refl _) _).grown hgrow (by simp) (fun k e => by cases e; exact Nat.le_refl _)
  clear hown hgrow hi hz0 hz1 hz2
  obtain ⟨G, hG⟩ : ∃ G, G = w.heap.size := ⟨_, rfl⟩
  have HB1 := Lib.hid hB0
  have HBA1 := Lib.hid hBA0
  clear hBA0 hB0 hlt
  rw [← hG] at hg' HB1 ⊢
  have HG := Lib.hid hG
  clear hG
  go_wp2
  go_loopw [8] (fun i wr => ∃ k : Nat, k ≤ n ∧ i = .int .i64 k ∧ BA wr g' cap' (putB bs (zs.take k) v) ∧ Below G w wr) (fun i _ => n - (intOf i).toNat)
  case atStart => exact ⟨0, Nat.zero_le _, rfl, HBA1.out, HB1.out⟩
  case round =>
    obtain ⟨k, hk, rfl, hBA, hB⟩ := hrel
    have HBA := Lib.hid hBA
    have HB := Lib.hid hB
    clear hBA hB
    by_cases hlt : k < n
    · rcases HZ.out with h0 | ⟨b, off, rfl, hc⟩
      · exfalso; rw [HN.out, h0] at hlt; simp at hlt
      · have hc0 := hc k (by rw [← HN.out]; exact hlt)
        have hc := (HB.out.cell (p := ⟨b, off + k, none⟩) (by rw [HG.out]; exact cell_lt hc0)).trans hc0
        clear hc0
        have HS := Lib.hid (putB_snoc bs zs v k (by rw [← HN.out]; exact hlt))
        generalize zs[k]?.getD 0 = z at hc HS
        by_cases h0 : 0 ≤ z
        · by_cases h1 : z < 64
          · have hc2 := HBA.out.cell z.toNat (by omega)
            have hf2 := HBA.out.free z.toNat
            go_wp2
            go_roundw
            case rel => exact ⟨k + 1, by omega, by go_num, by rw [HS.out, if_pos ⟨h0, h1⟩]; exact HBA.out.set _ _, HB.out.setCell (p := ⟨g', z.toNat, none⟩) hg' _⟩
            case measure => simp [intOf]; omega
          · go_wp2
            go_roundw
            case rel => exact ⟨k + 1, by omega, by go_num, by rw [HS.out, if_neg (by omega)]; exact HBA.out, HB.out⟩
            case measure => simp [intOf]; omega
        · go_wp2
          go_roundw
          case rel => exact ⟨k + 1, by omega, by go_num, by rw [HS.out, if_neg (by omega)]; exact HBA.out, HB.out⟩
          case measure => simp [intOf]; omega
    · go_wp2
      go_ret
      exact ⟨g', cap', rfl, by have := HBA.out; rwa [List.take_of_length_le (by rw [← HN.out]; omega)] at this, by rw [← HG.out]; exact hg', by rw [← HG.out]; exact HB.out⟩
end Go.Proofs.YtajpjmnkjpildaaDoor
