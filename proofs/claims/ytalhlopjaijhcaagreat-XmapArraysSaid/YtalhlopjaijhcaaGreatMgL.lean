/-
  Several texts in one: The library's sort at few words: an insertion sort. · The library's sort at few words. · A map: Keys. · A map: Close. · A map: Close.
-/
import Derived.Test.YtalhlopjaijhcaaGreatMgK
namespace Go.Proofs.YtalhlopjaijhcaaGreat
open Go.RowKit

attribute [local go_sem] Oper.semAt_some

/-- A row of words in a block of cells. -/
def RW (W : World) (G n cap : Nat) (Y : Nat → Nat) : Prop := ∃ cur : Array Value, HB W G 40 cur ∧ cur.size = cap ∧ n ≤ cap ∧ ∀ k, k < n → cur[k]? = some (.int .u64 (Y k : Int))
section
variable {W W' : World} {G n cap : Nat} {Y Z : Nat → Nat}
theorem RW.c (h : RW W G n cap Y) {k : Nat} (hk : k < n) : W.cell? ⟨G, k, none⟩ = some (.int .u64 (Y k : Int)) := by
  obtain ⟨cur, h1, h2, h3, h4⟩ := h
  exact HB.c h1 k (h4 k hk)
theorem RW.f (h : RW W G n cap Y) (k : Nat) : W.frozen? ⟨G, k, none⟩ = false := by
  obtain ⟨cur, h1, h2, h3, h4⟩ := h
  exact HB.f h1 k
theorem RW.set (h : RW W G n cap Y) (k v : Nat) : RW (W.setCell ⟨G, k, none⟩ (.int .u64 (v : Int))) G n cap (updW Y k v) := by
  obtain ⟨cur, h1, h2, h3, h4⟩ := h
  refine ⟨cur.setIfInBounds k (.int .u64 (v : Int)), HB.set h1 k _, by simp [h2], h3, fun j hj => ?_⟩
  unfold updW
  by_cases e : j = k
  · subst e
    rw [if_pos rfl, Array.getElem?_setIfInBounds_self_of_lt (by omega)]
  · rw [if_neg e, Array.getElem?_setIfInBounds_ne (Ne.symm e), h4 j hj]
theorem RW.ch (h : RW W G n cap Y) {S : List Nat} (hc : Ch S W W') (hG : G ∉ S) : RW W' G n cap Y := by
  obtain ⟨cur, h1, h2, h3, h4⟩ := h
  exact ⟨cur, h1.ch hc hG, h2, h3, h4⟩

/-- The same words, none twice. -/
structure Pm (n : Nat) (Y Z : Nat → Nat) : Prop where
  mem : ∀ x, (∃ k, k < n ∧ Z k = x) ↔ ∃ k, k < n ∧ Y k = x
  inj : ∀ a b, a < n → b < n → Z a = Z b → a = b
/-- Two neighbours change places. -/
def swp (Y : Nat → Nat) (j : Nat) : Nat → Nat := updW (updW Y j (Y (j - 1))) (j - 1) (Y j)
theorem swp_at (Y : Nat → Nat) {j : Nat} (hj : 0 < j) (k : Nat) : swp Y j k = if k = j then Y (j - 1) else if k = j - 1 then Y j else Y k := by
  unfold swp updW
  by_cases h1 : k = j - 1
  · rw [if_pos h1, if_neg (by omega), if_pos h1]
  · rw [if_neg h1]
    by_cases h2 : k = j
    · rw [if_pos h2, if_pos h2]
    · rw [if_neg h2, if_neg h2, if_neg h1]
theorem swp_to (Y : Nat → Nat) {j : Nat} (hj : 0 < j) (k : Nat) : ∃ m, (m = if k = j then j - 1 else if k = j - 1 then j else k) ∧ swp Y j k = Y m := by
  refine ⟨_, rfl, ?_⟩
  rw [swp_at Y hj]
  by_cases h1 : k = j
  · rw [if_pos h1, if_pos h1]
  · rw [if_neg h1, if_neg h1]
    by_cases h2 : k = j - 1
    · rw [if_pos h2, if_pos h2]
    · rw [if_neg h2, if_neg h2]
theorem Pm.swp (h : Pm n Y Z) {j : Nat} (hj : 0 < j) (hn : j < n) : Pm n Y (swp Z j) := by
  refine ⟨fun x => (Iff.intro ?_ ?_).trans (h.mem x), fun a b ha hb e => ?_⟩
  · rintro ⟨k, hk, rfl⟩
    obtain ⟨m, hm, e⟩ := swp_to Z hj k
    exact ⟨m, by split at hm <;> (try split at hm) <;> omega, e.symm⟩
  · rintro ⟨k, hk, rfl⟩
    by_cases h1 : k = j
    · subst h1
      exact ⟨k - 1, by omega, by rw [swp_at Z hj, if_neg (by omega), if_pos rfl]⟩
    · by_cases h2 : k = j - 1
      · subst h2
        exact ⟨j, hn, by rw [swp_at Z hj, if_pos rfl]⟩
      · exact ⟨k, hk, by rw [swp_at Z hj, if_neg h1, if_neg h2]⟩
  · obtain ⟨m, hm, e1⟩ := swp_to Z hj a
    obtain ⟨l, hl, e2⟩ := swp_to Z hj b
    rw [e1, e2] at e
    have := h.inj m l (by split at hm <;> (try split at hm) <;> omega) (by split at hl <;> (try split at hl) <;> omega) e
    split at hm <;> split at hl <;> (try split at hm) <;> (try split at hl) <;> omega

theorem isnan_any (a : Nat) (w : World) : Calls Tryz.prog 134 #[.int .u64 (a : Int)] w fun e w' => e = .returned (.bool false) ∧ w' = w := by
  go_enter Tryz.func134, Tryz.ntmps134
  go_wp2
  go_ret
  exact ⟨by simp, rfl⟩
theorem less_any (a b : Nat) (w : World) : Calls Tryz.prog 112 #[.int .u64 (a : Int), .int .u64 (b : Int)] w fun e w' => e = .returned (.bool (decide (a < b))) ∧ w' = w := by
  have HN := Lib.hid (isnan_any a w)
  go_enter Tryz.func112, Tryz.ntmps112
  go_wp2_with fail
  with_reducible refine HN.out.mono ?_
  rintro e w' ⟨rfl, rfl⟩
  go_wp2
  go_ret
  exact ⟨by simp, rfl⟩

def Upto (Z : Nat → Nat) (i j : Nat) : Prop := ∀ a b, a < b → b ≤ i → b ≠ j → Z a ≤ Z b
theorem Upto.swp {j : Nat} (h : Upto Z n j) (hj : 0 < j) (hlt : Z j < Z (j - 1)) : Upto (swp Z j) n (j - 1) := by
  intro a b hab hb hne
  rw [swp_at Z hj, swp_at Z hj]
  by_cases h1 : b = j
  · rw [if_pos h1, if_neg (by omega)]
    by_cases h2 : a = j - 1
    · rw [if_pos h2]; omega
    · rw [if_neg h2]; exact h a (j - 1) (by omega) (by omega) (by omega)
  · rw [if_neg h1, if_neg hne]
    by_cases h2 : a = j
    · rw [if_pos h2]; exact h (j - 1) b (by omega) hb h1
    · rw [if_neg h2]
      by_cases h3 : a = j - 1
      · rw [if_pos h3]; exact h j b (by omega) hb h1
      · rw [if_neg h3]; exact h a b hab hb h1
theorem Upto.all {i j : Nat} (h : Upto Z i j) (hj : j = 0 ∨ Z (j - 1) ≤ Z j) : ∀ a b, a < b → b ≤ i → Z a ≤ Z b := by
  intro a b hab hb
  by_cases h1 : b = j
  · subst h1
    have h2 : Z (b - 1) ≤ Z b := hj.resolve_left (by omega)
    by_cases h3 : a = b - 1
    · rw [h3]; exact h2
    · exact Nat.le_trans (h a (b - 1) (by omega) (by omega) (by omega)) h2
  · exact h a b hab hb h1

set_option maxHeartbeats 1000000 in
theorem ins_any (h : RW W G n cap Y) (hn : n ≤ 64) (hY : ∀ a b, a < n → b < n → Y a = Y b → a = b) :
    Calls Tryz.prog 106 #[.slice (some ⟨G, 0, none⟩) n cap, .int .i64 0, .int .i64 (n : Int)] W fun e W' => e = .returned (.tuple #[]) ∧ ∃ Z, RW W' G n cap Z ∧ (∀ a b, a < b → b < n → Z a ≤ Z b) ∧ Pm n Y Z ∧ Ch [G] W W' := by
  have H := Lib.hid h
  have HPm := Lib.hid (show Pm n Y Y from ⟨fun _ => Iff.rfl, hY⟩)
  clear h hY
  go_enter Tryz.func106, Tryz.ntmps106
  go_wp2
  go_loopw [6] (fun iv wr => ∃ (i : Nat) (Z : Nat → Nat), 1 ≤ i ∧ iv = .int .i64 (i : Int) ∧ RW wr G n cap Z ∧ (∀ a b, a < b → b < i → b < n → Z a ≤ Z b) ∧ Pm n Y Z ∧ Ch [G] W wr) (fun iv _ => n + 1 - (intOf iv).toNat)
  case atStart => exact ⟨1, Y, by omega, rfl, H.out, fun a b h1 h2 _ => by omega, HPm.out, Ch.refl _ _⟩
  case round =>
    obtain ⟨i, Z, hi, rfl, hr, hs, hp, hc⟩ := hrel
    by_cases hin : i < n
    · have hb1 : (i : Int) < (n : Int) := by omega
      have HR := Lib.hid hr
      have HP := Lib.hid hp
      have HC := Lib.hid hc
      have HS := Lib.hid (show Upto Z i i from fun a b h1 h2 h3 => hs a b h1 (by omega) (by omega))
      clear hr hs hp hc
      go_wp2
      go_loopw [7] (fun jv wr => ∃ (j : Nat) (Z : Nat → Nat), j ≤ i ∧ jv = .int .i64 (j : Int) ∧ RW wr G n cap Z ∧ Upto Z i j ∧ Pm n Y Z ∧ Ch [G] W wr) (fun jv _ => (intOf jv).toNat)
      case atStart => exact ⟨i, Z, Nat.le_refl _, rfl, HR.out, HS.out, HP.out, HC.out⟩
      case round =>
        obtain ⟨j, Z, hj, rfl, hr, hu, hp, hc⟩ := hrel
        have hwi : IntKind.i64.wrap ((i : Int) + 1) = (i : Int) + 1 := IntWalk.i64_in _ (by omega)
        clear HR HP HC HS
        have HR := Lib.hid hr
        have HP := Lib.hid hp
        have HC := Lib.hid hc
        have HU := Lib.hid hu
        by_cases h0 : 0 < j
        · obtain ⟨m, hm⟩ : ∃ m, m = j - 1 := ⟨_, rfl⟩
          have hsub : IntKind.i64.wrap ((j : Int) - 1) = (m : Int) := by rw [IntWalk.i64_in _ (by omega)]; omega
          have hg : decide (0 < j) = true := by simpa using h0
          have hj0 : (0 : Int) ≤ (j : Int) := by omega
          have hj1 : (j : Int) < (n : Int) := by omega
          have hm0 : (0 : Int) ≤ (m : Int) := by omega
          have hm1 : (m : Int) < (n : Int) := by omega
          have hM := Lib.hid (And.intro hm h0)
          have c1 := hr.c (k := j) (by omega)
          have c2 := hr.c (k := m) (by omega)
          have f1 := hr.f j
          have f2 := hr.f m
          obtain ⟨x, hx⟩ : ∃ x, x = Z j := ⟨_, rfl⟩
          obtain ⟨y, hy⟩ : ∃ y, y = Z m := ⟨_, rfl⟩
          rw [← hx] at c1
          rw [← hy] at c2
          have HXY := Lib.hid (And.intro hx hy)
          have HL := Lib.hid (fun W => less_any x y W)
          by_cases hlt : x < y
          · rw [decide_eq_true hlt] at HL
            have HLt := Lib.hid hlt
            have c2' : ∀ n, ((wr.drewN n).setCell ⟨G, j, none⟩ (.int .u64 (y : Int))).cell? ⟨G, m, none⟩ = some (.int .u64 (y : Int)) := fun n => setCell_other c2 (addr_ne_off (by omega))
            clear hr hu hp hc hx hy hlt hm h0
            go_wp2_with fail
            go_quiet ((go_at_call 112; exact Calls.quiet_of_same (HL.out _)))
            go_wp2_with fail
            go_region
            go_wp2
            go_roundw
            case rel => exact ⟨m, swp Z j, by have := hM.out; omega, by rfl, by (have hz : swp Z j = updW (updW Z j y) m x := by rw [HXY.out.1, HXY.out.2, hM.out.1]; rfl); rw [hz]; exact ((HR.out.ch ((Ch.refl [] wr).drewN (nq + 1)) (by simp)).set j y).set m x, by rw [hM.out.1]; exact HU.out.swp hM.out.2 (by rw [← hM.out.1, ← HXY.out.1, ← HXY.out.2]; exact HLt.out), HP.out.swp hM.out.2 (by omega), HC.out.trans ((((Ch.refl [G] wr).drewN (nq + 1)).setCell (p := ⟨G, j, none⟩) (by simp) _).setCell (p := ⟨G, m, none⟩) (by simp) _)⟩
            case measure => have := hM.out; simp [intOf]; omega
          · rw [decide_eq_false hlt] at HL
            have HLt := Lib.hid hlt
            clear hr hu hp hc hx hy hlt hm h0
            go_wp2_with fail
            go_quiet ((go_at_call 112; exact Calls.quiet_of_same (HL.out _)))
            go_wp2
            go_roundw
            case rel => exact ⟨i + 1, Z, by omega, by go_num, HR.out, fun a b h1 h2 h3 => HU.out.all (.inr (by rw [← hM.out.1, ← HXY.out.1, ← HXY.out.2]; have := HLt.out; omega)) a b h1 (by omega), HP.out, HC.out.trans ((Ch.refl _ _).drewN _)⟩
            case measure => simp [intOf]; omega
        · have hg : decide (0 < j) = false := by simpa using h0
          have H0 := Lib.hid h0
          clear hr hu hp hc h0
          go_wp2_with fail
          go_quiet (fail)
          go_wp2
          go_roundw
          case rel => exact ⟨i + 1, Z, by omega, by go_num, HR.out, fun a b h1 h2 h3 => HU.out.all (.inl (by have := H0.out; omega)) a b h1 (by omega), HP.out, HC.out.trans ((Ch.refl _ _).drewN _)⟩
          case measure => simp [intOf]; omega
    · go_wp2
      go_end0
      exact ⟨rfl, Z, hr, fun a b h1 h2 => hs a b h1 (by omega) h2, hp, hc⟩
end
end Go.Proofs.YtalhlopjaijhcaaGreat

namespace Go.Proofs.YtalhlopjaijhcaaGreat
open Go.RowKit

attribute [local go_sem] Oper.semAt_some

theorem len64_any {n : Nat} (h : n ≤ 8) (w : World) : Calls Tryz.prog 116 #[.int .u64 (n : Int)] w fun e w' => (∃ k : Int, e = .returned (.int .i64 k)) ∧ w' = w := by
  rcases (by omega : n = 0 ∨ n = 1 ∨ n = 2 ∨ n = 3 ∨ n = 4 ∨ n = 5 ∨ n = 6 ∨ n = 7 ∨ n = 8) with rfl | rfl | rfl | rfl | rfl | rfl | rfl | rfl | rfl <;>
  · go_enter Tryz.func116, Tryz.ntmps116
    go_wp2
    go_ret
    exact ⟨⟨_, rfl⟩, rfl⟩
theorem bits_any {n : Nat} (h : n ≤ 8) (w : World) : Calls Tryz.prog 80 #[.int .u64 (n : Int)] w fun e w' => (∃ k : Int, e = .returned (.int .i64 k)) ∧ w' = w := by
  have HN := Lib.hid (len64_any h w)
  go_enter Tryz.func80, Tryz.ntmps80
  go_wp2_with fail
  with_reducible refine HN.out.mono ?_
  rintro e w' ⟨⟨k, rfl⟩, rfl⟩
  go_wp2
  go_ret
  exact ⟨⟨_, rfl⟩, rfl⟩
section
variable {W : World} {G n cap : Nat} {Y : Nat → Nat}
/-- What the sort of a row is. -/
def Srt (G n cap : Nat) (Y : Nat → Nat) (W W' : World) : Prop := ∃ Z, RW W' G n cap Z ∧ (∀ a b, a < b → b < n → Z a ≤ Z b) ∧ Pm n Y Z ∧ Ch [G] W W'
theorem pdq_any (h : RW W G n cap Y) (hn : n ≤ 8) (hY : ∀ a b, a < n → b < n → Y a = Y b → a = b) (l : Int) :
    Calls Tryz.prog 79 #[.slice (some ⟨G, 0, none⟩) n cap, .int .i64 0, .int .i64 (n : Int), .int .i64 l] W fun e W' => e = .returned (.tuple #[]) ∧ Srt G n cap Y W W' := by
  have HI := Lib.hid (ins_any h (by omega) hY)
  have h1 : IntKind.i64.wrap ((n : Int) - 0) = (n : Int) := by rw [IntWalk.i64_in _ (by omega)]; omega
  have h2 : (n : Int) ≤ 12 := by omega
  have h3 : n ≤ 12 := by omega
  clear h hY
  go_enter Tryz.func79, Tryz.ntmps79
  go_wp2_with fail
  refine wp_loop_rounds 1 ?_
  rw [rounds_succ]
  go_wp2_with fail
  with_reducible refine HI.out.mono ?_
  rintro e w' ⟨rfl, h⟩
  have HS := Lib.hid h
  clear h
  go_wp2
  refine bodyPost_ret (v := .tuple #[]) (results_none rfl _ _ _) rfl ?_
  exact ⟨rfl, HS.out⟩
theorem sort_any (h : RW W G n cap Y) (hn : n ≤ 8) (hY : ∀ a b, a < n → b < n → Y a = Y b → a = b) :
    Calls Tryz.prog 50 #[.slice (some ⟨G, 0, none⟩) n cap] W fun e W' => e = .returned (.tuple #[]) ∧ Srt G n cap Y W W' := by
  have HI := Lib.hid (fun l => pdq_any h hn hY l)
  have HB := Lib.hid (bits_any hn W)
  have h1 : IntKind.u64.wrap (n : Int) = (n : Int) := by rw [IntWalk.u64_in _ (by omega)]
  clear h hY
  go_enter Tryz.func50, Tryz.ntmps50
  go_wp2_with fail
  with_reducible refine HB.out.mono ?_
  rintro e w' ⟨⟨k, rfl⟩, rfl⟩
  go_wp2_with fail
  with_reducible refine (HI.out k).mono ?_
  rintro e w' ⟨rfl, h⟩
  have HS := Lib.hid h
  clear h
  go_wp2
  go_end0
  exact ⟨rfl, HS.out⟩
end
theorem ins_nil (w : World) : Calls Tryz.prog 106 #[.slice none 0 0, .int .i64 0, .int .i64 0] w fun e W' => e = .returned (.tuple #[]) ∧ W' = w := by
  go_enter Tryz.func106, Tryz.ntmps106
  go_wp2_with fail
  refine wp_loop_rounds 1 ?_
  rw [rounds_succ]
  go_wp2
  go_end0
  exact ⟨rfl, rfl⟩
theorem pdq_nil (l : Int) (w : World) : Calls Tryz.prog 79 #[.slice none 0 0, .int .i64 0, .int .i64 0, .int .i64 l] w fun e W' => e = .returned (.tuple #[]) ∧ W' = w := by
  have HI := Lib.hid (ins_nil w)
  go_enter Tryz.func79, Tryz.ntmps79
  go_wp2_with fail
  refine wp_loop_rounds 1 ?_
  rw [rounds_succ]
  go_wp2_with fail
  with_reducible refine HI.out.mono ?_
  rintro e w' ⟨rfl, rfl⟩
  go_wp2
  refine bodyPost_ret (v := .tuple #[]) (results_none rfl _ _ _) rfl ?_
  exact ⟨rfl, rfl⟩
theorem sort_nil (w : World) : Calls Tryz.prog 50 #[.slice none 0 0] w fun e W' => e = .returned (.tuple #[]) ∧ W' = w := by
  have HI := Lib.hid (fun l => pdq_nil l w)
  have HB := Lib.hid (show Calls Tryz.prog 80 #[.int .u64 0] w fun e w' => (∃ k : Int, e = .returned (.int .i64 k)) ∧ w' = w from bits_any (n := 0) (by omega) w)
  go_enter Tryz.func50, Tryz.ntmps50
  go_wp2_with fail
  with_reducible refine HB.out.mono ?_
  rintro e w' ⟨⟨k, rfl⟩, rfl⟩
  go_wp2_with fail
  with_reducible refine (HI.out k).mono ?_
  rintro e w' ⟨rfl, rfl⟩
  go_wp2
  go_end0
  exact ⟨rfl, rfl⟩
end Go.Proofs.YtalhlopjaijhcaaGreat

namespace Go.Proofs.YtalhlopjaijhcaaGreat
open Go.RowKit

attribute [local go_sem] Oper.semAt_some

section
variable {V : Type}
theorem keysE_mem {n : Nat} (hn : 0 < n) {L : List (Ent V)} {k : Nat} : k ∈ keysE n L ↔ k ∈ ksE L := by
  unfold keysE
  rw [List.mem_flatMap]
  constructor
  · rintro ⟨b, _, h⟩
    obtain ⟨e, he, rfl⟩ := ksE_mem.1 h
    exact ksE_mem.2 ⟨e, (chn_mem.1 he).1, rfl⟩
  · intro h
    exact ⟨bk n k, List.mem_range.2 (bk_lt hn k), chn_key.2 h⟩
theorem keysN_nodup {n : Nat} {L : List (Ent V)} (h : (ksE L).Nodup) : ∀ m, (keysN n L m).Nodup
  | 0 => by simp [keysN]
  | m + 1 => by
    rw [keysN_succ, List.nodup_append]
    refine ⟨keysN_nodup h m, chn_nodup h n m, fun a ha b hb e => ?_⟩
    subst e
    unfold keysN at ha
    rw [List.mem_flatMap] at ha
    obtain ⟨c, hc, ha⟩ := ha
    obtain ⟨e1, h1, rfl⟩ := ksE_mem.1 ha
    obtain ⟨e2, h2, h3⟩ := ksE_mem.1 hb
    have := (chn_mem.1 h1).2
    have h5 := (chn_mem.1 h2).2
    rw [h3] at h5
    have := List.mem_range.1 hc
    omega
theorem keysE_nodup {n : Nat} {L : List (Ent V)} (h : (ksE L).Nodup) : (keysE n L).Nodup := keysN_nodup h n
end
/-- Words in ascending order. -/
def ascN (l : List Nat) : List Nat := l.mergeSort (fun a b => decide (a ≤ b))
theorem ascN_perm (l : List Nat) : (ascN l).Perm l := List.mergeSort_perm _ _
theorem ascN_len (l : List Nat) : (ascN l).length = l.length := (ascN_perm l).length_eq
theorem ascN_le (l : List Nat) : (ascN l).Pairwise (· ≤ ·) :=
  (List.pairwise_mergeSort (le := fun a b => decide (a ≤ b)) (fun a b c h1 h2 => by simp at *; omega) (fun a b => by simp; omega) l).imp (fun h => by simpa using h)
theorem ascN_eq {l m : List Nat} (h1 : m.Pairwise (· ≤ ·)) (h2 : m.Perm l) : ascN l = m :=
  List.Perm.eq_of_pairwise (le := (· ≤ ·)) (fun a b _ _ h1 h2 => by omega) (ascN_le l) h1 ((ascN_perm l).trans h2.symm)
theorem map_range_at (n : Nat) (Z : Nat → Nat) {j : Nat} (hj : j < n) : ((List.range n).map Z)[j]? = some (Z j) := by
  rw [List.getElem?_map, List.getElem?_range hj]; rfl
theorem row_asc {n : Nat} {l : List Nat} {Z : Nat → Nat} (hl : l.length = n) (hd : l.Nodup) (hs : ∀ a b, a < b → b < n → Z a ≤ Z b) (hp : Pm n (fun k => l.getD k 0) Z) : (List.range n).map Z = ascN l := by
  refine (ascN_eq ?_ ?_).symm
  · rw [List.pairwise_iff_getElem]
    intro i j hi hj hij
    simp at hi hj
    simpa using hs i j hij hj
  · refine (List.perm_ext_iff_of_nodup ?_ hd).2 (fun x => ?_)
    · unfold List.Nodup
      rw [List.pairwise_iff_getElem]
      intro i j hi hj hij e
      simp at hi hj e
      have := hp.inj i j hi hj e
      omega
    · have h1 := hp.mem x
      constructor
      · intro h
        obtain ⟨k, hk, e⟩ := List.mem_map.1 h
        obtain ⟨j, hj, e2⟩ := h1.1 ⟨k, List.mem_range.1 hk, e⟩
        rw [← e2]
        simp [List.getD, List.getElem?_eq_getElem (show j < l.length by omega)]
      · intro h
        obtain ⟨j, hj, e⟩ := List.getElem_of_mem h
        obtain ⟨k, hk, e2⟩ := h1.2 ⟨j, by omega, by simp [List.getD, List.getElem?_eq_getElem hj, e]⟩
        exact List.mem_map.2 ⟨k, List.mem_range.2 hk, e2⟩

theorem ch_own {w w1 w2 : World} {G : Nat} (h : Ch [] w w1) (k : Ch [G] w1 w2) (hG : w.heap.size ≤ G) : Ch [] w w2 :=
  ⟨k.os.trans h.os, k.tape.trans h.tape, k.output.trans h.output, Nat.le_trans h.size k.size, fun i hi _ => (k.block i (Nat.lt_of_lt_of_le hi h.size) (by simp; omega)).trans (h.block i hi (by simp))⟩
/-- A row of words is sorted in its place. -/
theorem sortrow_any {w w1 : World} {v : Value} {l : List Nat} (hr : w1.ownsRow w.heap.size 40 1 v l.length (u64s l)) (hc : Ch [] w w1) (hl : l.length ≤ 8) (hd : l.Nodup) :
    Calls Tryz.prog 50 #[v] w1 fun e W' => e = .returned (.tuple #[]) ∧ W'.ownsRow w.heap.size 40 1 v (ascN l).length (u64s (ascN l)) ∧ Ch [] w W' := by
  rcases hr.2 with ⟨rfl, h0⟩ | ⟨G, cap, cur, rfl, hG, hb, h1, h2, h3, h4⟩
  · obtain rfl : l = [] := List.length_eq_zero_iff.1 h0
    refine (sort_nil w1).mono ?_
    rintro e W' ⟨rfl, rfl⟩
    exact ⟨rfl, by rw [show ascN [] = [] from by simp [ascN]]; exact hr, hc⟩
  · have hat : ∀ k, k < l.length → cur[k]? = some (.int .u64 ((l.getD k 0 : Nat) : Int)) := fun k hk => by
      have e1 : (cur.toList.take (l.length * 1))[k]? = some (.int .u64 ((l.getD k 0 : Nat) : Int)) := by
        rw [h4]
        simp [u64s, List.getD, List.getElem?_eq_getElem hk]
      rw [List.getElem?_take_of_lt (by omega)] at e1
      simpa using e1
    refine (sort_any (W := w1) (G := G) (n := l.length) (cap := cap) (Y := fun k => l.getD k 0) ⟨cur, hb, by simpa using h3, h1, hat⟩ hl (fun a b ha hb e => ?_)).mono ?_
    · simp [List.getD, List.getElem?_eq_getElem ha, List.getElem?_eq_getElem hb] at e
      rcases Nat.lt_trichotomy a b with h | h | h
      · exact absurd e (List.pairwise_iff_getElem.1 hd a b ha hb h)
      · exact h
      · exact absurd e.symm (List.pairwise_iff_getElem.1 hd b a hb ha h)
    · rintro e W' ⟨rfl, Z, ⟨cur2, g1, g2, g3, g4⟩, hs, hp, hc2⟩
      have hz := row_asc rfl hd hs hp
      refine ⟨rfl, ?_, ch_own hc hc2 hG⟩
      rw [ascN_len]
      refine ⟨by simp [u64s, ascN_len], .inr ⟨G, cap, cur2, rfl, hG, g1, h1, h2, by simpa using g2, ?_⟩⟩
      rw [← hz]
      apply List.ext_getElem?
      intro j
      by_cases hj : j < l.length
      · rw [List.getElem?_take_of_lt (by omega)]
        have := g4 j hj
        rw [← Array.getElem?_toList] at this
        rw [this]
        simp [u64s, hj]
      · rw [List.getElem?_eq_none (by simp; omega), List.getElem?_eq_none (by simp [u64s]; omega)]

/-- All keys. -/
def keysL (kind : Nat) (tb : List (Ent (Int × Int))) (us : List Nat) : List Nat := if kind = 2 then us else if kind = 0 then ascN (keysE 8 tb) else keysE 8 tb
theorem keysM_eq (s : MS) : keysM s = keysL s.kind s.tb s.us := rfl
section
variable {w : World} {b : Bk} {s : MS} {N : Nat} {tb : List (Ent (Int × Int))} {us : List Nat}
theorem keys_any (h : XP w b s N tb us) (hd : (ksE tb).Nodup) (hl : tb.length ≤ 8) :
    Calls Tryz.prog 14 #[mp b] w fun e w' => ∃ v, e = .returned v ∧ w'.ownsRow w.heap.size 40 1 v (keysL s.kind tb us).length (u64s (keysL s.kind tb us)) ∧ Ch [] w w' := by
  have HH := Lib.hid h
  obtain ⟨c0, -, -, -, -, c5, c6⟩ := h.cells
  unfold keysL
  by_cases h2 : s.kind = 2
  · rw [if_pos h2]
    obtain ⟨L, n, hL, hn, ho⟩ := h.od h2
    have HL := Lib.hid (oU.list_any (p := some ⟨b.So + 1, 0, none⟩) (w := w) (.inr ⟨_, _, _, _, rfl, ho⟩))
    rw [show usP b s.kind = some ⟨b.So + 1, 0, none⟩ from if_pos h2] at c6
    rw [hL] at HL
    have hk : ((s.kind : Int) == 2) = true := by rw [h2]; rfl
    have hk2 : (s.kind : Int) = 2 := by rw [h2]; rfl
    clear h hL ho
    go_enter Tryz.func14, Tryz.ntmps14
    go_wp2_with fail
    with_reducible refine HL.out.mono ?_
    rintro e w2 ⟨v, rfl, hr, hc⟩
    have HR := Lib.hid (And.intro hr hc)
    clear hr hc
    go_wp2
    go_ret
    exact ⟨v, rfl, HR.out⟩
  · rw [if_neg h2]
    have HK := Lib.hid (bH.keys_any h.tg)
    have hk : ((s.kind : Int) == 2) = false := by simp; omega
    have hk2 : ¬ (s.kind : Int) = 2 := by omega
    by_cases h0 : s.kind = 0
    · rw [if_pos h0]
      have hk0 : (s.kind : Int) = 0 := by omega
      clear h
      go_enter Tryz.func14, Tryz.ntmps14
      go_wp2_with fail
      with_reducible refine HK.out.mono ?_
      rintro e w2 ⟨v, rfl, hr, hc⟩
      have c0' := (HH.out.quiet hc).cells.1
      have HS := Lib.hid (sortrow_any hr hc (by rw [keysE_len (by omega)]; exact hl) (keysE_nodup hd))
      clear hr hc c0
      go_wp2_with fail
      with_reducible refine HS.out.mono ?_
      rintro e w3 ⟨rfl, hr, hc⟩
      have HR := Lib.hid (And.intro hr hc)
      clear hr hc
      go_wp2
      go_ret
      exact ⟨v, rfl, HR.out⟩
    · rw [if_neg h0]
      have hk0 : ¬ (s.kind : Int) = 0 := by omega
      clear h
      go_enter Tryz.func14, Tryz.ntmps14
      go_wp2_with fail
      with_reducible refine HK.out.mono ?_
      rintro e w2 ⟨v, rfl, hr, hc⟩
      have c0' := (HH.out.quiet hc).cells.1
      have HR := Lib.hid (And.intro hr hc)
      clear hr hc c0
      go_wp2
      go_ret
      exact ⟨v, rfl, HR.out⟩
end
theorem keys_nil (w : World) : Calls Tryz.prog 14 #[.pointer none] w fun e w' => e = .returned (.slice none 0 0) ∧ w' = w := by
  go_enter Tryz.func14, Tryz.ntmps14
  go_wp2
  go_ret
  exact ⟨rfl, rfl⟩
end Go.Proofs.YtalhlopjaijhcaaGreat

namespace Go.Proofs.YtalhlopjaijhcaaGreat
open Go.RowKit

attribute [local go_sem] Oper.semAt_some

section
variable {V : Type}
def delT (L : List (Ent V)) (l : List Nat) : List (Ent V) := L.filter fun e => decide (e.k ∉ l)
theorem delE_delT (L : List (Ent V)) (l : List Nat) (k : Nat) : delE (delT L l) k = delT L (l ++ [k]) := by
  unfold delE delT
  rw [List.filter_filter]
  congr 1
  funext e
  simp [and_comm]
theorem val_delT {L : List (Ent V)} (hn : (ksE L).Nodup) {l : List Nat} {k : Nat} (h : k ∉ l) : valE (delT L l) k = valE L k := by
  have hn2 : (ksE (delT L l)).Nodup := List.Nodup.sublist (List.Sublist.map _ List.filter_sublist) hn
  cases hv : valE L k with
  | some y =>
    refine (val_iff hn2).2 (List.mem_filter.2 ⟨val_some hv, by simpa using h⟩)
  | none =>
    rw [val_none] at hv ⊢
    intro hm
    obtain ⟨e, he, rfl⟩ := ksE_mem.1 hm
    exact hv (ksE_mem.2 ⟨e, (List.mem_filter.1 he).1, rfl⟩)
theorem delT_nil (L : List (Ent V)) : delT L [] = L := by simp [delT]
theorem delT_all {L : List (Ent V)} {l : List Nat} (h : ∀ k ∈ ksE L, k ∈ l) : delT L l = [] := by
  unfold delT
  rw [List.filter_eq_nil_iff]
  intro e he
  simpa using h e.k (ksE_mem.2 ⟨e, he, rfl⟩)
end
def drpT (us l : List Nat) : List Nat := us.filter fun k => decide (k ∉ l)
theorem drp_drpT (us l : List Nat) (k : Nat) : drp (drpT us l) k = drpT us (l ++ [k]) := by
  unfold drp drpT
  rw [List.filter_filter]
  congr 1
  funext e
  simp [and_comm]
theorem drpT_all {us l : List Nat} (h : ∀ k ∈ us, k ∈ l) : drpT us l = [] := by
  unfold drpT
  rw [List.filter_eq_nil_iff]
  intro e he
  simpa using h e he
theorem drpT_nil (us : List Nat) : drpT us [] = us := by simp [drpT]
/-- Handles' cells. -/
def hcs (hs : List (Int × Int)) : List Value := hs.flatMap fun h => [.int .i64 h.1, .int .i64 h.2]
theorem hcs_len (hs : List (Int × Int)) : (hcs hs).length = hs.length * 2 := by
  induction hs with
  | nil => rfl
  | cons a r ih =>
    rw [show hcs (a :: r) = [.int .i64 a.1, .int .i64 a.2] ++ hcs r from rfl, List.length_append, ih]
    simp
    omega
theorem hcs_app (a b : List (Int × Int)) : hcs (a ++ b) = hcs a ++ hcs b := List.flatMap_append
/-- Whom Close puts out. -/
def closedH (s : MS) : List (Int × Int) := (keysM s).map fun k => (valE s.tb k).getD (0, 0)
theorem keys_in {s : MS} (h : WF s) {k : Nat} : k ∈ keysM s ↔ k ∈ ksE s.tb := by
  unfold keysM
  by_cases h2 : s.kind = 2
  · rw [if_pos h2]; exact h.us2 h2 k
  · rw [if_neg h2]
    by_cases h0 : s.kind = 0
    · rw [if_pos h0]
      exact ((ascN_perm _).mem_iff).trans (keysE_mem (by omega))
    · rw [if_neg h0]
      exact keysE_mem (by omega)
theorem keysM_nodup {s : MS} (h : WF s) : (keysM s).Nodup := by
  unfold keysM
  by_cases h2 : s.kind = 2
  · rw [if_pos h2]; exact h.und
  · rw [if_neg h2]
    by_cases h0 : s.kind = 0
    · rw [if_pos h0]
      exact (ascN_perm _).nodup_iff.2 (keysE_nodup h.tnd)
    · rw [if_neg h0]
      exact keysE_nodup h.tnd
theorem keysM_len {s : MS} (h : WF s) : (keysM s).length = s.tb.length := by
  have := len_eq_of_mem (keysM_nodup h) h.tnd (fun k => keys_in h)
  rwa [ksE, List.length_map] at this

theorem infoHd : (Tryz.prog.info? 39).map (fun i => (i.zero, i.size, i.bytes)) = some (some (.agg #[.int .i64 0, .int .i64 0]), 2, 16) := by kernel_rfl
theorem HB.grown {w w' : World} {G : Nat} {t : TypeId} {cs : Array Value} (h : HB w G t cs) {B e n : Nat} {v : Value} {xs : List Value} (hr : w.ownsRow B e 2 v n xs) (ht : t ≠ e) (hg : w.grownBy w' v.ownBlock) : HB w' G t cs := by
  refine (hg.block G h.lt (fun e1 => ?_)).trans h
  rcases hr.2 with ⟨rfl, _⟩ | ⟨g, cap, cur, rfl, _, hb, _⟩
  · cases e1
  · obtain rfl : G = g := by simpa [Value.ownBlock] using e1
    have e2 := h.symm.trans hb
    simp at e2
    exact ht e2.2
section
variable {w w' : World} {b : Bk} {s : MS} {N : Nat} {tb : List (Ent (Int × Int))} {us : List Nat}
/-- What lies behind the map turns. -/
theorem XP.away (h : XP w b s N tb us) {T : List Nat} (hc : Ch T w w')
    (hT : ∀ k ∈ T, b.Eh ≤ k ∧ ∃ o, w.heap[k]? = some o ∧ (∀ cs fr, o ≠ .cells cs 170 fr) ∧ (∀ cs fr, o ≠ .cells cs 154 fr) ∧ (∀ cs fr, o ≠ .cells cs 135 fr)) : XP w' b s N tb us := by
  obtain ⟨H, ht⟩ := h.tb
  have l := h.lay
  have l1 := l.xg; have l2 := l.gr; have l3 := l.rs; have l4 := l.sr; have l5 := l.re; have l7 := l.se; have l6 := l.so
  have hn : ∀ {k}, k < b.Eh → k ∉ T := fun hk hm => by have := (hT _ hm).1; omega
  refine ⟨h.blk.ch hc (hn (by omega)), h.ar.ch hc (hn (by omega)) (hn (by omega)), ⟨H, tb_away ht hc (fun k hk => .inr (hT k hk).2)⟩, fun e => ?_, l, Nat.le_trans h.eh hc.size⟩
  obtain ⟨L, n, g1, g2, g3⟩ := h.od e
  exact ⟨L, n, g1, g2, g3.ch hc (hn (by omega)) (hn (by omega))⟩
theorem XP.grown (h : XP w b s N tb us) {B e n : Nat} {v : Value} {xs : List Value} (hr : w.ownsRow B e 2 v n xs) (he : b.Eh ≤ B) (h1 : e ≠ 170) (h2 : e ≠ 154) (h3 : e ≠ 135) (hg : w.grownBy w' v.ownBlock) : XP w' b s N tb us := by
  refine h.away (T := v.ownBlock.toList) ⟨hg.os, hg.tape, hg.output, hg.size, fun k hk hn => hg.block k hk (fun e => hn (by rw [← e]; simp))⟩ (fun k hk => ?_)
  have hk' : v.ownBlock = some k := by simpa using hk
  rcases hr.2 with ⟨rfl, _⟩ | ⟨g, cap, cur, rfl, hB, hb, _⟩
  · cases hk'
  · obtain rfl : g = k := by simpa [Value.ownBlock] using hk'
    exact ⟨Nat.le_trans he hB, _, hb, fun cs fr e => (by cases e; exact h1 rfl), fun cs fr e => (by cases e; exact h2 rfl), fun cs fr e => (by cases e; exact h3 rfl)⟩
theorem XP.closed (h : XP w b s N tb us) : XP (w.setCell ⟨b.X, 3, none⟩ (.bool true)) b { s with cl := true } N tb us := by
  obtain ⟨H, ht⟩ := h.tb
  have l := h.lay
  have l1 := l.xg; have l2 := l.gr; have l3 := l.rs; have l4 := l.sr; have l5 := l.re; have l7 := l.se; have l6 := l.so
  have hc : Ch [b.X] w (w.setCell ⟨b.X, 3, none⟩ (.bool true)) := (Ch.refl [b.X] w).setCell (p := ⟨b.X, 3, none⟩) (by simp) _
  refine ⟨h.blk.set 3 _, h.ar.ch hc (by simp; omega) (by simp; omega), ⟨H, tb_away ht hc (fun k hk => by simp at hk; left; omega)⟩, fun e => ?_, l, Nat.le_trans h.eh hc.size⟩
  obtain ⟨L, n, g1, g2, g3⟩ := h.od e
  exact ⟨L, n, g1, g2, g3.ch hc (by simp; omega) (by simp; omega)⟩
theorem XP.wf (h : XP w b s N tb us) (h2 : s.kind = 2) : ∀ k ∈ us, oU.wfK k := by
  intro k hk
  obtain ⟨L, n, g1, g2, g3⟩ := h.od h2
  obtain ⟨D, _, hv⟩ := g3.own
  rw [← g1] at hk
  obtain ⟨e, he, rfl⟩ := List.mem_map.1 hk
  exact (hv.mem e he).1
end
end Go.Proofs.YtalhlopjaijhcaaGreat

namespace Go.Proofs.YtalhlopjaijhcaaGreat
open Go.RowKit

attribute [local go_sem] Oper.semAt_some

section
variable {w : World} {b : Bk} {s : MS} {N : Nat}
theorem hd_news (W : World) (u v : Value) (t : TypeId) : ∀ j x, [u, v][j]? = some x → (W.alloc (.cells #[u, v] t)).cell? ((⟨W.heap.size, 0, none⟩ : Addr).add j) = some x := by
  intro j x hx
  rw [addr_add, Nat.zero_add, World.cell?_alloc_at _ _ _ _ rfl]
  simpa using hx
set_option maxHeartbeats 2000000 in
theorem close_any (h : XM w b s N) :
    Calls Tryz.prog 32 #[mp b] w fun e w' => ∃ v, e = .returned v ∧ w'.ownsRow w.heap.size 39 2 v (keysM s).length (hcs (closedH s)) ∧ XM w' b (closeM s) N ∧ Xn b w w' := by
  obtain ⟨i0, hi, hz0, hz1, hz2⟩ := info_parts infoHd
  obtain ⟨w1, hw1⟩ : ∃ w1, w1 = w.setCell ⟨b.X, 3, none⟩ (.bool true) := ⟨_, rfl⟩
  have hsz1 : w1.heap.size = w.heap.size := by rw [hw1]; simp [World.setCell]
  have hp1 : XP w1 b { s with cl := true } N s.tb s.us := by rw [hw1]; exact h.xp.closed
  have hx1 : Xn b w w1 := by
    rw [hw1]
    have l := h.lay
    have l1 := l.xg; have l2 := l.gr; have l3 := l.rs; have l4 := l.sr; have l5 := l.re
    exact Xn.of_own ((Ch.refl [b.X] w).setCell (p := ⟨b.X, 3, none⟩) (by simp) _) (fun k hk => by simp at hk; omega)
  have HK := keys_any hp1 h.wf.tnd (Nat.le_trans h.wf.tl h.wf.hn.2)
  rw [show keysL ({ s with cl := true } : MS).kind s.tb s.us = keysM s from rfl, hsz1] at HK
  have HK := Lib.hid HK
  have HWF := Lib.hid h.wf
  have HP1 := Lib.hid hp1
  have HX1 := Lib.hid hx1
  have HEh := Lib.hid h.eh
  have HWk := Lib.hid (fun e => h.xp.wf e)
  have c3 := h.xp.cells.2.2.2.1
  have f3 := HB.f h.blk 3
  have HW := Lib.hid hw1
  obtain ⟨l, hl⟩ : ∃ l, l = keysM s := ⟨_, rfl⟩
  have HL := Lib.hid hl
  have hl8 : l.length ≤ 8 := by rw [hl, keysM_len h.wf]; exact Nat.le_trans h.wf.tl h.wf.hn.2
  have HND := Lib.hid (show l.Nodup by rw [hl]; exact keysM_nodup h.wf)
  rw [← hl] at HK ⊢
  have HEnd := Lib.hid (show ∀ wz, XP wz b { s with cl := true } N (delT s.tb l) (drpT s.us l) → XM wz b (closeM s) N from fun wz hz => by
    rw [delT_all (fun k hk => by rw [hl]; exact (keys_in h.wf).2 hk), drpT_all (fun k hk => by
      by_cases e : s.kind = 2
      · rw [hl]; exact (keys_in h.wf).2 ((h.wf.us2 e k).1 hk)
      · rw [h.wf.us0 e] at hk; cases hk)] at hz
    exact hz.xm h.wf.close)
  obtain ⟨hs, hhs⟩ : ∃ hs, hs = closedH s := ⟨_, rfl⟩
  have HHs := Lib.hid (show hs = l.map fun k => (valE s.tb k).getD (0, 0) by rw [hhs, hl]; rfl)
  rw [← hhs]
  clear h hp1 hx1 hw1 hl hhs hsz1
  go_enter Tryz.func32, Tryz.ntmps32
  go_wp2_with fail
  rw [← HW.out]
  with_reducible refine HK.out.mono ?_
  rintro e w2 ⟨v, rfl, hrow, hc2⟩
  rcases hrow.2 with ⟨rfl, h0⟩ | ⟨G, cap, cur, rfl, hG, hb, g1, g2, g3, g4⟩
  · obtain rfl : l = [] := List.length_eq_zero_iff.1 h0
    have hh0 : hs = [] := by rw [HHs.out]; rfl
    have HM := Lib.hid (HEnd.out w2 (by rw [delT_nil, drpT_nil]; exact HP1.out.quiet hc2))
    have HX2 := Lib.hid (HX1.out.trans (Xn.of_ch hc2))
    clear hrow hc2 h0 c3 f3
    go_wp2_with fail
    refine wp_loop_rounds 1 ?_
    rw [rounds_succ]
    go_wp2
    go_ret
    exact ⟨_, rfl, by rw [hh0]; exact World.ownsRow_nil _ _ _ _, HM.out, HX2.out⟩
  · have hat : ∀ k, k < l.length → cur[k]? = some (.int .u64 ((l.getD k 0 : Nat) : Int)) := fun k hk => by
      have e1 : (cur.toList.take (l.length * 1))[k]? = some (.int .u64 ((l.getD k 0 : Nat) : Int)) := by
        rw [g4]
        simp [u64s, List.getD, List.getElem?_eq_getElem hk]
      rw [List.getElem?_take_of_lt (by omega)] at e1
      simpa using e1
    have HAt := Lib.hid hat
    have HBk := Lib.hid (show HB w2 G 40 cur from hb)
    have HGl := Lib.hid hG
    have HP2 := Lib.hid (HP1.out.quiet hc2)
    have HX2 := Lib.hid (HX1.out.trans (Xn.of_ch hc2))
    obtain ⟨n, hn⟩ : ∃ n, n = l.length := ⟨_, rfl⟩
    have HN := Lib.hid hn
    rw [← hn] at hl8
    rw [← hn]
    clear hrow hc2 hb g1 g2 g3 g4 hat hG hn c3 f3
    go_wp2_with fail
    go_loopw [3, 16] (fun lv iv wr => ∃ i : Nat, i ≤ n ∧ iv = .int .i64 (i : Int) ∧ HB wr G 40 cur ∧ XP wr b { s with cl := true } N (delT s.tb (l.take i)) (drpT s.us (l.take i)) ∧ wr.ownsRow w.heap.size 39 2 lv i (hcs (hs.take i)) ∧ Xn b w wr) (fun _ iv _ => n - (intOf iv).toNat)
    case atStart => exact ⟨0, Nat.zero_le _, rfl, HBk.out, by rw [List.take_zero, delT_nil, drpT_nil]; exact HP2.out, World.ownsRow_nil _ _ _ _, HX2.out⟩
    case round =>
      obtain ⟨i, hin, rfl, hb, hp, hr, hx⟩ := hrel
      by_cases hlt : i < n
      · obtain ⟨k, hk⟩ : ∃ k, k = l.getD i 0 := ⟨_, rfl⟩
        have hli : l[i]? = some k := by rw [hk]; simp [List.getD, List.getElem?_eq_getElem (show i < l.length by rw [← HN.out]; exact hlt)]
        have HT := Lib.hid (show l.take (i + 1) = l.take i ++ [k] by rw [List.take_add_one, hli]; rfl)
        have hni : k ∉ l.take i := fun hm => by
          obtain ⟨j, hj, e⟩ := List.getElem_of_mem hm
          rw [List.length_take] at hj
          rw [List.getElem_take] at e
          have hil : i < l.length := by rw [← HN.out]; exact hlt
          have e2 : l[i] = k := by simpa [List.getElem?_eq_getElem hil] using hli
          exact List.pairwise_iff_getElem.1 HND.out j i (by omega) hil (by omega) (e.trans e2.symm)
        have HKm := Lib.hid (show k ∈ keysM s from by rw [← HL.out]; exact List.mem_of_getElem? hli)
        have hc := hb.c i (by rw [HAt.out i (by rw [← HN.out]; exact hlt), ← hk])
        have hi0 : (0 : Int) ≤ (i : Int) := by omega
        have hi1 : (i : Int) < (n : Int) := by omega
        have HG := bH.get_any hp.tg k
        rw [val_delT HWF.out.tnd hni] at HG
        obtain ⟨⟨p, q⟩, hy⟩ : ∃ y, y = (valE s.tb k).getD (0, 0) := ⟨_, rfl⟩
        rw [show (valE s.tb k).getD bH.v0 = (p, q) from hy.symm] at HG
        have HHi := Lib.hid (show hs.take (i + 1) = hs.take i ++ [(p, q)] by
          rw [List.take_add_one, HHs.out, List.getElem?_map, hli, hy]; rfl)
        have HG := Lib.hid HG
        have HB0 := Lib.hid hb
        have HP0 := Lib.hid hp
        have HR0 := Lib.hid hr
        have HX0 := Lib.hid hx
        have c5 := hp.cells.2.2.2.2.2.1
        clear hb hp hr hx hk hy hli hni
        go_wp2_with fail
        with_reducible refine HG.out.mono ?_
        rintro e w3 ⟨rfl, hc3⟩
        obtain ⟨w4, hw4⟩ : ∃ w4, w4 = w3.alloc (.cells #[.int .i64 p, .int .i64 q] 39) := ⟨_, rfl⟩
        have hc4 : Ch [] wr w4 := by rw [hw4]; exact hc3.alloc _
        have hX4 : HB w4 w3.heap.size 39 #[.int .i64 p, .int .i64 q] := by rw [hw4]; exact HB.new w3 _ _
        have HX3 := Lib.hid (show b.Eh ≤ w3.heap.size from Nat.le_trans HEh.out (Nat.le_trans HX0.out.size hc3.size))
        have HU := Lib.hid (unlink_any (HP0.out.quiet hc4) (fun e => by rw [HWF.out.us0 e]; rfl) (k := k) (fun e => HWk.out e k ((HWF.out.us2 e k).2 ((keys_in HWF.out).1 HKm.out))))
        have HR4 := Lib.hid (own_ch HR0.out hc4 (by simp))
        have HB4 := Lib.hid (HB0.out.ch hc4 (by simp))
        have HXn4 := Lib.hid (HX0.out.trans (Xn.of_ch hc4))
        have HX4 := Lib.hid hX4
        have HW4 := Lib.hid hw4
        obtain ⟨X, hX⟩ : ∃ X, X = w3.heap.size := ⟨_, rfl⟩
        have HXX := Lib.hid hX
        clear hc hc3 hc4 hX4 hw4 c5 HG
        go_wp2_with fail
        rw [← HW4.out, ← hX]
        with_reducible refine HU.out.mono ?_
        rintro e w5 ⟨rfl, hp5, hx5⟩
        have hr5 := hx5.row HR4.out HEh.out (by decide) (by decide)
        have hB5 := hx5.hb HB4.out (Nat.le_trans HEh.out HGl.out) (by decide) (by decide)
        have hX5 := hx5.hb HX4.out HX3.out (by decide) (by decide)
        rw [← hX] at hX5
        have x0 := hX5.c 0 rfl
        have x1 := hX5.c 1 rfl
        have hsz5 : w.heap.size ≤ w5.heap.size := Nat.le_trans HXn4.out.size hx5.size
        have HP5 := Lib.hid hp5
        have HX5 := Lib.hid hx5
        have HB5 := Lib.hid hB5
        have HR5 := Lib.hid hr5
        clear hp5 hx5 hB5 hX5 hr5 HU hX HXX
        go_wp2_with (first | (at_builtin; refine wpList_append_own _ rfl _ _ 70 rfl w.heap.size 39 i0 (.agg #[.int .i64 0, .int .i64 0]) 2 16 Tryz.underlying70 hi hz0 hz1 hz2 rfl (by decide) _ i _ rfl (HR5.out.alloc _) ⟨w5.heap.size, 0, none⟩ 1 1 [.int .i64 p, .int .i64 q] rfl rfl (hd_news _ _ _ _) (by simp [Value.oneCell']) (by unfold maxLen; omega) (by omega) (by simp; omega) ?_; intro v' w6 hown' hgrow _; have HO := Lib.hid hown'; have HG6 := Lib.hid hgrow; clear hown' hgrow) | fail)
        go_roundw
        case rel =>
          have hr6 := HR5.out.alloc (.cells #[.int .i64 p, .int .i64 q] 39)
          have hp6 := (HP5.out.quiet ((Ch.refl [] w5).alloc (.cells #[.int .i64 p, .int .i64 q] 39))).grown hr6 HEh.out (by decide) (by decide) (by decide) HG6.out
          rw [delE_delT, drp_drpT, ← HT.out] at hp6
          refine ⟨i + 1, by omega, by go_num, (HB5.out.alloc _).grown hr6 (by decide) HG6.out, hp6, by rw [HHi.out, hcs_app]; exact HO.out, ?_⟩
          have hb6 : Below w.heap.size w5 w6 := (Below.alloc (Below.refl _ _) hsz5 _).grown HG6.out (by simp; omega) (fun j e => (hr6.lt j e).1)
          exact (HXn4.out.trans HX5.out).below hb6
        case measure => simp [intOf]; omega
      · obtain rfl : i = n := by omega
        rw [HN.out, List.take_length] at hp
        have HM := Lib.hid (HEnd.out _ hp)
        have HR := Lib.hid hr
        have HX := Lib.hid hx
        clear hp hr hx hb
        go_wp2
        go_ret
        exact ⟨_, rfl, by
          have := HR.out
          rw [List.take_of_length_le (by rw [HHs.out, List.length_map, ← HN.out]; exact Nat.le_refl _)] at this
          rw [← HN.out]
          exact this, HM.out, HX.out⟩
end
end Go.Proofs.YtalhlopjaijhcaaGreat
