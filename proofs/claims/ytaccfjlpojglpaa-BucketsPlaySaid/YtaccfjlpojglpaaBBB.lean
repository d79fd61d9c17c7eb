/-
  A table of values of bool: how many buckets, a key's bucket, how many keys; New.
-/
import Derived.Test.YtaccfjlpojglpaaBuB
import Derived.Test.YtaccfjlpojglpaaBBA
namespace Go.Proofs.Ytaccfjlpojglpaa.bB
open Go.RowKit

attribute [local go_sem] Oper.semAt_some

theorem buckets_any {w : World} {S n : Nat} {p : Option Addr} {L : List E} (h : TG w S p n L) : Calls Try.prog 48 #[.pointer p] w fun e w' => e = .returned (.int .i64 (n : Int)) ∧ w' = w := by
  rcases h with ⟨rfl, rfl, rfl⟩ | ⟨R, K, room, H, rfl, h⟩
  · go_enter Try.func48, Try.ntmps48
    go_wp2
    go_ret
    exact ⟨rfl, rfl⟩
  · have c1 := h.c1
    clear h
    go_enter Try.func48, Try.ntmps48
    go_wp2
    go_ret
    exact ⟨rfl, rfl⟩

theorem bucket_any {w : World} {S n : Nat} {p : Option Addr} {L : List E} (h : TG w S p n L) (k : Nat) : Calls Try.prog 31 #[.pointer p, .int .u64 (k : Int)] w fun e w' => e = .returned (.int .i64 ((bk n k : Nat) : Int)) ∧ w' = w := by
  have hle := h.le.1
  have HB := Lib.hid (buckets_any h)
  clear h
  by_cases h0 : n = 0
  · subst h0
    go_enter Try.func31, Try.ntmps31
    go_wp2_with fail
    with_reducible refine HB.out.mono ?_
    rintro e w' ⟨rfl, rfl⟩
    go_wp2
    go_ret
    exact ⟨rfl, rfl⟩
  · obtain ⟨m, hm⟩ : ∃ m, m = k * 11400714819323198485 % 18446744073709551616 := ⟨_, rfl⟩
    obtain ⟨q, hq⟩ : ∃ q, q = m / 4294967296 := ⟨_, rfl⟩
    obtain ⟨r, hr⟩ : ∃ r, r = q % n := ⟨_, rfl⟩
    have HR := Lib.hid (show bk n k = r by unfold bk; rw [if_neg h0, hr, hq, hm])
    have hm64 : m < 18446744073709551616 := by rw [hm]; exact Nat.mod_lt _ (by decide)
    have hq32 : q < 4294967296 := by omega
    have hrn : r < n := by rw [hr]; exact Nat.mod_lt _ (by omega)
    have e1 : IntKind.u64.wrap ((k : Int) * 11400714819323198485) = (m : Int) := by
      rw [IntKind.wrap_u64, hm]
      omega
    have e2 : (m : Int) / 4294967296 = (q : Int) := by omega
    have e3 : (q : Int) % (n : Int) = (r : Int) := by rw [hr]; rfl
    have e6 : IntKind.u64.wrap (n : Int) = (n : Int) := by rw [IntKind.wrap_u64]; omega
    have e4 : IntKind.i64.wrap (r : Int) = (r : Int) := IntWalk.i64_in _ (by omega)
    have e5 : wrap64 (r : Int) = (r : Int) := by unfold wrap64; omega
    clear hm hq hr hm64 hq32 hrn hle
    go_enter Try.func31, Try.ntmps31
    go_wp2_with fail
    with_reducible refine HB.out.mono ?_
    rintro e w' ⟨rfl, rfl⟩
    go_wp2_with fail
    go_ret
    exact ⟨by rw [HR.out]; rfl, rfl⟩

theorem len_any {w : World} {S n : Nat} {p : Option Addr} {L : List E} (h : TG w S p n L) : Calls Try.prog 33 #[.pointer p] w fun e w' => e = .returned (.int .i64 (L.length : Int)) ∧ w' = w := by
  have HB := Lib.hid (buckets_any h)
  rcases h with ⟨rfl, rfl, rfl⟩ | ⟨R, K, room, H, rfl, h⟩
  · go_enter Try.func33, Try.ntmps33
    go_wp2_with fail
    with_reducible refine HB.out.mono ?_
    rintro e w' ⟨rfl, rfl⟩
    go_wp2
    go_loopw [3, 7] (fun sv iv wr => sv = .int .i64 0 ∧ iv = .int .i64 0 ∧ wr = w') (fun _ _ _ => 0)
    case atStart => exact ⟨rfl, rfl, rfl⟩
    case round =>
      obtain ⟨rfl, rfl, rfl⟩ := hrel
      go_wp2
      go_ret
      exact ⟨rfl, rfl⟩
  · have c1 := h.c1
    have hn64 := h.hn.2
    have HH := Lib.hid h
    have HL := Lib.hid (lenE_all (n := n) (by have := h.hn; omega) L)
    have hl64 : L.length ≤ 64 := by have := h.hl; have := h.hr; omega
    clear h
    go_enter Try.func33, Try.ntmps33
    go_wp2_with fail
    with_reducible refine HB.out.mono ?_
    rintro e w' ⟨rfl, rfl⟩
    go_wp2_with fail
    go_loopw [3, 7] (fun sv iv wr => ∃ i : Nat, i ≤ n ∧ iv = .int .i64 (i : Int) ∧ sv = .int .i64 ((lenE n L i : Nat) : Int) ∧ wr = w') (fun _ iv _ => n - (intOf iv).toNat)
    case atStart => exact ⟨0, Nat.zero_le _, rfl, rfl, rfl⟩
    case round =>
      obtain ⟨i, hi, rfl, rfl, rfl⟩ := hrel
      by_cases hlt : i < n
      · obtain ⟨cH, _⟩ := HH.out.head hlt
        obtain ⟨a, cap, hf, _⟩ := (HH.out.rows i hlt).form
        obtain ⟨m, hm⟩ : ∃ m, m = (chn n i L).length := ⟨_, rfl⟩
        rw [hf, ← hm] at cH
        have hs : lenE n L i + m ≤ 64 := by
          have := lenE_le (n := n) L (m := i + 1) (n - (i + 1))
          rw [show i + 1 + (n - (i + 1)) = n by omega, HL.out] at this
          have h2 : lenE n L (i + 1) = lenE n L i + m := by rw [hm]; rfl
          omega
        have HS := Lib.hid (show lenE n L (i + 1) = lenE n L i + m by rw [hm]; rfl)
        obtain ⟨s, hsn⟩ : ∃ s, s = lenE n L i := ⟨_, rfl⟩
        rw [← hsn] at hs HS ⊢
        have hb0 : (0 : Int) ≤ (i : Int) := by omega
        have hb1 : (i : Int) < (n : Int) := by omega
        have hwr : IntKind.i64.wrap ((s : Int) + (m : Int)) = (s : Int) + (m : Int) := IntWalk.i64_in _ (by omega)
        clear hsn hf hm
        go_wp2
        go_roundw
        case rel => exact ⟨i + 1, by omega, by go_num, by rw [HS.out]; go_num, trivial⟩
        case measure => simp [intOf]; omega
      · obtain rfl : i = n := by omega
        go_wp2
        go_ret
        exact ⟨by rw [HL.out]; rfl, rfl⟩

theorem new_bad (n room : Int) (w : World) (h : ¬ (1 ≤ n ∧ n ≤ 64) ∨ ¬ (1 ≤ room ∧ room ≤ 64)) : Calls Try.prog 27 #[.int .i64 n, .int .i64 room] w fun r w' => r = .returned (.tuple #[.pointer none, .int .i64 2]) ∧ w' = w := by
  have HM := Lib.hid (may_any n w)
  have HM2 := Lib.hid (may_any room w)
  by_cases h1 : 1 ≤ n ∧ n ≤ 64
  · have h2 := h.resolve_left (fun h => h h1)
    rw [decide_eq_true h1] at HM
    rw [decide_eq_false h2] at HM2
    clear h h1 h2
    go_enter Try.func27, Try.ntmps27
    go_wp2_with fail
    with_reducible refine HM.out.mono ?_
    rintro e w1 ⟨rfl, rfl⟩
    go_wp2_with fail
    with_reducible refine HM2.out.mono ?_
    rintro e w1 ⟨rfl, rfl⟩
    go_wp2
    go_ret2
    exact ⟨rfl, rfl⟩
  · rw [decide_eq_false h1] at HM
    clear h h1
    go_enter Try.func27, Try.ntmps27
    go_wp2_with fail
    with_reducible refine HM.out.mono ?_
    rintro e w1 ⟨rfl, rfl⟩
    go_wp2
    go_ret2
    exact ⟨rfl, rfl⟩

theorem infoH : (Try.prog.info? 103).map (fun i => (i.zero, i.size, i.bytes)) = some (some (.slice none 0 0), 1, 24) := by kernel_rfl
theorem heads0 (n : Nat) : (madeCells (Value.slice none 0 0).cells (n * 1)).toList = (List.range n).map fun _ => Value.slice none 0 0 := by
  rw [show (Value.slice none 0 0).cells = #[.slice none 0 0] from rfl, toList_madeCells_one, Nat.mul_one]
  apply List.ext_getElem?
  intro j
  by_cases hj : j < n
  · simp [hj]
  · simp [hj]
theorem new_ok (n room : Nat) (w : World) (hn : 1 ≤ n ∧ n ≤ 64) (hr : 1 ≤ room ∧ room ≤ 64) :
    Calls Try.prog 27 #[.int .i64 (n : Int), .int .i64 (room : Int)] w fun r w' => ∃ R, r = .returned (.tuple #[.pointer (some ⟨R, 0, none⟩), .int .i64 0]) ∧ TB w' w.heap.size R w.heap.size n room (fun _ => .slice none 0 0) [] ∧ Ch [] w w' := by
  have HM := Lib.hid (may_any (n : Int) w)
  have HM2 := Lib.hid (may_any (room : Int) w)
  rw [decide_eq_true (by omega)] at HM
  rw [decide_eq_true (by omega)] at HM2
  obtain ⟨i0, hi, hz0, hz1, hz2⟩ := info_parts infoH
  have HN := Lib.hid hn
  have HR := Lib.hid hr
  have hn2 := hn.2
  clear hn hr
  go_enter Try.func27, Try.ntmps27
  go_wp2_with fail
  with_reducible refine HM.out.mono ?_
  rintro e w1 ⟨rfl, rfl⟩
  go_wp2_with fail
  with_reducible refine HM2.out.mono ?_
  rintro e w1 ⟨rfl, rfl⟩
  go_wp2_with (first | (at_make; refine wpList_make_full _ rfl _ _ 96 rfl w1.heap.size 103 i0 (.slice none 0 0) 1 Try.underlying96 hi hz0 hz1 _ _ _ _ n rfl rfl rfl rfl (by rw [hz2]; omega) (by unfold maxLen; omega) (Nat.le_refl _) ?_; intro w2 hrow2 hg2) | fail)
  go_ret2
  have h1 := hrow2.alloc (.cells #[.int .i64 (room : Int), .slice (some ⟨w1.heap.size, 0, none⟩) n n] 98)
  rw [heads0] at h1
  have hc2 : Ch [] w1 w2 := (Ch.refl [] w1).kept hg2 (by simp)
  refine ⟨w2.heap.size, rfl, ⟨World.alloc_heap_new w2 _, h1, fun b hb => ⟨rfl, .inl ⟨rfl, rfl⟩⟩, fun _ _ _ _ _ => .inl rfl, hc2.size, List.nodup_nil, HN.out, HR.out, by simp⟩, hc2.alloc _⟩
end Go.Proofs.Ytaccfjlpojglpaa.bB
