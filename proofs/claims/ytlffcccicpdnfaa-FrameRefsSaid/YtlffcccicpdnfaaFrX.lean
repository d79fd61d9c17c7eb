/-
  The program's Read.
-/
import Derived.Test.YtlffcccicpdnfaaFrW
import Derived.Deep.WholeRow
namespace Go.Proofs.Ytlffcccicpdnfaa
open Go.RowKit Go.BigFrame

attribute [local go_sem] Oper.semAt_some

/-- What is read, and the error. -/
def rdE (F : FV) (a n : Int) : List Nat × Int :=
  if hol a n then (if (things F (10 + a.toNat) n.toNat).any (·.r) = true then ([], 17) else (rdB F (10 + a.toNat) n.toNat, 0)) else ([], 1)
theorem slice8_run (b k m e : Nat) (he : k + m = e) (hm : e ≤ 8) (w : World) : ∃ o cp, (Instr.sliceAt 73 (.pointer (some ⟨b, 50, none⟩)) (some (.int .i64 (k : Int))) (some (.int .i64 (e : Int))) none).run Try.prog w = .ok (.slice (some ⟨b, o, none⟩) m cp) w ∧ (0 < m → o = 50 + k * 5) := by
  have hl : Try.prog.arrayLen 73 = 8 := by kernel_rfl
  have h := run_sliceAt_array_lh (P := Try.prog) w 73 ⟨b, 50, none⟩ (by kernel_rfl) .i64 .i64 (k : Int) (e : Int) (by omega) (by omega) (by rw [hl]; omega)
  have hs : (sizeOf (Try.prog.elem 73)).run Try.prog w = .ok 5 w := by kernel_rfl
  rw [hs, hl, Result.andThen_ok, show (k : Int).toNat = k by omega, show (e : Int).toNat = e by omega] at h
  unfold slicedAt at h
  rw [show e - k = m by omega] at h
  by_cases e1 : 8 = k
  · rw [if_pos e1] at h
    exact ⟨_, _, h, fun hm => by omega⟩
  · rw [if_neg e1, addr_add] at h
    exact ⟨_, _, h, fun _ => rfl⟩
theorem leB_take {n k : Nat} (hk : k < 8) : (leB n).take (k + 1) = (leB n).take k ++ [n / 256 ^ k % 256] := by
  rw [List.take_succ_eq_append_getElem (by rw [leB_len]; exact hk)]
  simp [leB]

/-- A box of a thing, whole. -/
def XB (w : World) (X : Nat) (x : V5) (t : TypeId) : Prop := w.heap[X]? = some (.cells #[.bool x.r, .int .i64 x.m, .int .i64 x.s, .int .i64 x.g, .int .u64 (x.n : Int)] t)
theorem XB.new (w : World) (x : V5) (t : TypeId) : XB (w.alloc (.cells #[.bool x.r, .int .i64 x.m, .int .i64 x.s, .int .i64 x.g, .int .u64 (x.n : Int)] t)) w.heap.size x t := heap_alloc_last w _
theorem XB.lt {w : World} {X : Nat} {x : V5} {t : TypeId} (h : XB w X x t) : X < w.heap.size := (Array.getElem?_eq_some_iff.1 h).1
theorem XB.ch {S : List Nat} {w w' : World} {X : Nat} {x : V5} {t : TypeId} (h : XB w X x t) (hc : Ch S w w') (hX : X ∉ S) : XB w' X x t := (hc.block X h.lt hX).trans h
theorem XB.c4 {w : World} {X : Nat} {x : V5} {t : TypeId} (h : XB w X x t) : w.cell? ⟨X, 4, none⟩ = some (.int .u64 (x.n : Int)) := by
  rw [cell_of_row w X 4 _ t (0, 0) h]; rfl
theorem XB.grown {w w' : World} {X lo e s n : Nat} {x : V5} {t : TypeId} {v : Value} {xs : List Value} (h : XB w X x t) (hv : w.ownsRow lo e s v n xs) (hne : e ≠ t) (hg : w.grownBy w' v.ownBlock) : XB w' X x t := by
  refine (hg.block X h.lt (fun e' => ?_)).trans h
  rcases hv.2 with ⟨rfl, _⟩ | ⟨g, cp, cur, rfl, _, hk, _⟩
  · simp [Value.ownBlock] at e'
  · have : X = g := by simpa [Value.ownBlock] using e'
    subst this
    unfold XB at h
    rw [hk] at h
    exact hne (by injection h with h; injection h)

set_option maxRecDepth 10000 in
set_option maxHeartbeats 8000000 in
theorem read_in {w : World} {b : Nat} {F : FV} (h : FR w b F) {k m : Nat} (hkm : k + m ≤ 8) (hr : (things F (10 + k) m).any (·.r) = false) :
    Calls Try.prog 19 #[.pointer (some ⟨b, 0, none⟩), .int .i64 (k : Int), .int .i64 (m : Int)] w fun e w' => ∃ v, e = .returned (.tuple #[v, .int .i64 0]) ∧ BW w' w.heap.size v (rdB F (10 + k) m) ∧ Ch [] w w' := by
  obtain ⟨i0, hI, hz0, hz1, hz2⟩ : ∃ i : TypeInfo, Try.prog.info? 5 = some i ∧ i.zero = some (.int .u8 0) ∧ i.size = 1 ∧ i.bytes = 1 := by
    refine ⟨_, rfl, by kernel_rfl, by kernel_rfl, by kernel_rfl⟩
  have HH := Lib.hid (fun W => holds_any (a := (k : Int)) (n := (m : Int)) ⟨by omega, by omega⟩ W)
  rw [show decide (hol (k : Int) (m : Int)) = true from decide_eq_true (by unfold hol; omega)] at HH
  obtain ⟨e, he⟩ : ∃ e, k + m = e := ⟨_, rfl⟩
  obtain ⟨o, cp, hsl, ho⟩ := slice8_run b k m e he (by omega) w
  have hsum : IntKind.i64.wrap ((k : Int) + (m : Int)) = (e : Int) := by rw [IntKind.wrap_i64]; omega
  have hVA : ValsAt w (some ⟨b, o, none⟩) (things F (10 + k) m) := by
    by_cases hm0 : m = 0
    · subst hm0; exact .inl rfl
    · refine .inr ⟨b, o, rfl, fun i hi => ?_⟩
      rw [things_at]
      rw [things_len] at hi
      have := h.word (k := k + i) (by omega)
      rw [ho (by omega)]
      rwa [show 10 + (k + i) = 10 + k + i by omega, show 50 + (k + i) * 5 = 50 + k * 5 + i * 5 by omega] at this
  have HRf := Lib.hid (hasref_any (cap := cp) (things_len F (10 + k) m) (by omega) hVA)
  rw [hr] at HRf
  have HVA := Lib.hid (fun i (hi : i < m) => show At5 w b (o + i * 5) (F (10 + k + i)) from by
    rcases hVA with h0 | ⟨b', o', e', hx⟩
    · have := things_len F (10 + k) m; rw [h0] at this; simp at this; omega
    · cases e'
      have := hx i (by rw [things_len]; exact hi)
      rwa [things_at] at this)
  have HKm := Lib.hid hkm
  clear h hkm hr he ho hVA
  go_enter Try.func19, Try.ntmps19
  go_wp2_with (first
    | (with_reducible refine (HH.out _).mono ?_; rintro e w' ⟨rfl, rfl⟩)
    | (with_reducible refine HRf.out.mono ?_; rintro e w1 ⟨rfl, hc1⟩; have HC1 := Lib.hid hc1; clear hc1)
    | fail)
  clear HH HRf hsl hsum
  go_loopw [9, 31] (fun v i wr => ∃ j : Nat, i = .int .i64 (j : Int) ∧ j ≤ m ∧ BW wr w.heap.size v (rdB F (10 + k) j) ∧ Ch [] w wr) (fun _ i _ => m - (intOf i).toNat)
  case atStart => exact ⟨0, rfl, Nat.zero_le _, BW.nil _ _, HC1.out⟩
  case round =>
    obtain ⟨j, rfl, hj, hB, hc⟩ := hrel
    have HB := Lib.hid hB
    have HC := Lib.hid hc
    by_cases hjm : j < m
    · have hjm' : (j : Int) < (m : Int) := by omega
      obtain ⟨c0, c1, c2, c3, c4⟩ := (HVA.out j hjm).ch hc (by simp)
      have HNx := Lib.hid (show rdB F (10 + k) (j + 1) = rdB F (10 + k) j ++ leB (F (10 + k + j)).n from rfl)
      have HLr := Lib.hid (rdB_len F (10 + k) j)
      generalize F (10 + k + j) = x at *
      obtain ⟨va, vc, rfl, -, -⟩ := hB.form
      rw [HLr.out]
      obtain ⟨X, hX⟩ : ∃ b, wr.heap.size = b := ⟨_, rfl⟩
      obtain ⟨w3, hw3⟩ : ∃ W, wr.alloc (.cells #[.bool x.r, .int .i64 x.m, .int .i64 x.s, .int .i64 x.g, .int .u64 (x.n : Int)] 38) = W := ⟨_, rfl⟩
      have hal : Ch [] wr w3 := by rw [← hw3]; exact (Ch.refl [] wr).alloc _
      have HX3 := Lib.hid (show XB w3 X x 38 by rw [← hw3, ← hX]; exact XB.new wr x _)
      have HB3 := Lib.hid (hB.ch hal (by simp))
      have HC3 := Lib.hid (hc.trans hal)
      have HXs := Lib.hid hX
      have HWs := Lib.hid hw3
      have HKj := Lib.hid (show 8 * j ≤ 64 by have := HKm.out; omega)
      have HJm := Lib.hid hjm
      generalize rdB F (10 + k) j = l0 at *
      clear hB hc hal hX hw3 hjm
      go_wp2_with fail
      rw [HXs.out, HWs.out]
      clear c0 c1 c2 c3 c4
      go_loopw [9, 35] (fun v i wr => ∃ t : Nat, i = .int .i64 (t : Int) ∧ t ≤ 8 ∧ BW wr w.heap.size v (l0 ++ (leB x.n).take t) ∧ XB wr X x 38 ∧ Ch [] w wr) (fun _ i _ => 8 - (intOf i).toNat)
      case atStart =>
        refine ⟨0, rfl, by decide, ?_, HX3.out, HC3.out⟩
        have := HB3.out
        unfold BW at this ⊢
        simpa [HLr.out] using this
      case round =>
        obtain ⟨t, rfl, ht, hB, hX, hc⟩ := hrel
        have HB4 := Lib.hid hB
        have HC4 := Lib.hid hc
        have HX4 := Lib.hid hX
        by_cases ht8 : t < 8
        · have ht8' : (t : Int) < 8 := by omega
          have x4 := hX.c4
          obtain ⟨s, hs⟩ : ∃ s, 8 * t = s := ⟨_, rfl⟩
          obtain ⟨y, hy⟩ : ∃ y, x.n / 256 ^ t % 256 = y := ⟨_, rfl⟩
          obtain ⟨z, hz⟩ : ∃ z, x.n / 256 ^ t = z := ⟨_, rfl⟩
          have e2 : IntKind.i64.wrap (8 * (t : Int)) = (s : Int) := by rw [IntKind.wrap_i64]; omega
          have e3 : (x.n : Int) / 2 ^ s = (z : Int) := by rw [show (2 : Int) ^ s = ((2 ^ s : Nat) : Int) by simp, ← Int.natCast_ediv, ← hs, ← pow256, hz]
          have e4 : IntKind.u8.wrap (z : Int) = (y : Int) := by rw [IntKind.wrap_u8, ← hy, hz]; omega
          have s1 : (s : Int) ≤ 64 := by omega
          have s2 : s ≤ 64 := by omega
          have s3 : ¬ (s : Int) < 0 := by omega
          have HN4 := Lib.hid (show l0 ++ (leB x.n).take (t + 1) = (l0 ++ (leB x.n).take t) ++ [y] by rw [leB_take ht8, hy, List.append_assoc])
          obtain ⟨l1, hl1⟩ : ∃ l1, l0 ++ (leB x.n).take t = l1 := ⟨_, rfl⟩
          have hlen : l1.length = 8 * j + t := by rw [← hl1, List.length_append, HLr.out, List.length_take, leB_len]; omega
          rw [hl1] at hB HN4
          have ew : IntKind.i64.wrap ((t : Int) + 1) = ((t + 1 : Nat) : Int) := by rw [IntKind.wrap_i64]; omega
          obtain ⟨q, hq⟩ : ∃ q, l1.length = q := ⟨_, rfl⟩
          have hB2 := hB
          unfold BW at hB2
          rw [hq] at hB2
          have HB5 := Lib.hid hB2
          have HQ := Lib.hid (show q ≤ 1000 by have := HKj.out; omega)
          have HQl := Lib.hid hq
          obtain ⟨av, ac, rfl⟩ := own_form hB2
          clear hB hB2 hl1 hlen hq hX hc hs hy hz ht8 HB4
          go_wp2_with (at_builtin; go_must (refine wpList_append_own _ rfl _ _ 48 rfl w.heap.size 5 i0 (.int .u8 0) 1 1 Try.underlying48 hI hz0 hz1 hz2 rfl (by decide) _ q (u8l l1) rfl (HB5.out.alloc _) ⟨wr.heap.size, 0, none⟩ 1 1 [.int .u8 (y : Int)] rfl rfl (cells_u8 wr y _) (by simp [Value.oneCell']) (by unfold maxLen; have := HQ.out; omega) (by have := HQ.out; omega) (by have := HC4.out.size; simp; omega) ?_); intro v3 w5 hown3 hgrow3 hnil3; refine Hid.out ?_)
          refine Lib.hid ?_
          have HC5 := Lib.hid (own_new (HC4.out.alloc _) hgrow3 (Nat.le_refl _) (HB5.out.alloc _))
          have HX5 := Lib.hid ((HX4.out.ch ((Ch.refl [] wr).alloc _) (by simp)).grown (HB5.out.alloc _) (by decide) hgrow3)
          have HB6 := Lib.hid (show BW w5 w.heap.size v3 (l0 ++ (leB x.n).take (t + 1)) by rw [HN4.out]; exact BW.snoc (by rw [HQl.out]; exact hown3))
          obtain ⟨av3, ac3, rfl⟩ := own_form hown3
          clear hown3 hgrow3 hnil3 x4
          go_wp2_with fail
          go_roundw
          case rel => exact ⟨t + 1, rfl, by omega, HB6.out, HX5.out, HC5.out⟩
          case measure => simp [intOf]; omega
        · obtain rfl : t = 8 := by omega
          have hB6 := hB
          rw [List.take_of_length_le (by rw [leB_len]; decide), ← HNx.out] at hB6
          have HB6 := Lib.hid hB6
          obtain ⟨av, ac, rfl, -, -⟩ := hB.form
          have ew : IntKind.i64.wrap ((j : Int) + 1) = ((j + 1 : Nat) : Int) := by rw [IntKind.wrap_i64]; have := HKj.out; omega
          have HC4 := Lib.hid hc
          clear hB hB6 hX hc ht8
          go_wp2_with fail
          go_roundw
          case rel => exact ⟨j + 1, rfl, by have := HJm.out; omega, HB6.out, HC4.out⟩
          case measure => have := HJm.out; simp [intOf]; omega
    · obtain rfl : j = m := by omega
      obtain ⟨av, ac, rfl, -, -⟩ := hB.form
      clear hc hjm
      go_wp2_with fail
      go_ret2
      exact ⟨_, rfl, HB.out, HC.out⟩
theorem fread_any {w : World} {b : Nat} {F : FV} (h : FR w b F) {a n : Int} (ha : fit a) :
    Calls Try.prog 19 #[.pointer (some ⟨b, 0, none⟩), .int .i64 a, .int .i64 n] w fun e w' => ∃ v, e = .returned (.tuple #[v, .int .i64 (rdE F a n).2]) ∧ BW w' w.heap.size v (rdE F a n).1 ∧ Ch [] w w' := by
  by_cases hh : hol a n
  · obtain ⟨h0, h1, h2⟩ := id hh
    obtain ⟨k, rfl⟩ : ∃ k : Nat, a = (k : Int) := ⟨a.toNat, by omega⟩
    obtain ⟨m, rfl⟩ : ∃ k : Nat, n = (k : Int) := ⟨n.toNat, by omega⟩
    unfold rdE
    rw [if_pos hh, Int.toNat_natCast, Int.toNat_natCast]
    by_cases hr : (things F (10 + k) m).any (·.r) = true
    · rw [if_pos hr]
      have HH := Lib.hid (fun W => holds_any (n := (m : Int)) ha W)
      rw [show decide (hol (k : Int) (m : Int)) = true from decide_eq_true hh] at HH
      obtain ⟨e, he⟩ : ∃ e, k + m = e := ⟨_, rfl⟩
      obtain ⟨o, cp, hsl, ho⟩ := slice8_run b k m e he (by omega) w
      have hsum : IntKind.i64.wrap ((k : Int) + (m : Int)) = (e : Int) := by rw [IntKind.wrap_i64]; omega
      have hVA : ValsAt w (some ⟨b, o, none⟩) (things F (10 + k) m) := by
        by_cases hm0 : m = 0
        · subst hm0; exact .inl rfl
        · refine .inr ⟨b, o, rfl, fun i hi => ?_⟩
          rw [things_at]
          rw [things_len] at hi
          have := h.word (k := k + i) (by omega)
          rw [ho (by omega)]
          rwa [show 10 + (k + i) = 10 + k + i by omega, show 50 + (k + i) * 5 = 50 + k * 5 + i * 5 by omega] at this
      have HRf := Lib.hid (hasref_any (cap := cp) (things_len F (10 + k) m) (by omega) hVA)
      rw [hr] at HRf
      clear h hh ha h0 h1 h2 hr he ho hVA
      go_enter Try.func19, Try.ntmps19
      go_wp2_with (first
        | (with_reducible refine (HH.out _).mono ?_; rintro e w' ⟨rfl, rfl⟩)
        | (with_reducible refine HRf.out.mono ?_; rintro e w1 ⟨rfl, hc1⟩; have HC1 := Lib.hid hc1; clear hc1)
        | fail)
      go_ret2
      exact ⟨_, rfl, BW.nil _ _, HC1.out⟩
    · rw [if_neg hr]
      exact read_in h (by omega) (by simpa using hr)
  · unfold rdE
    rw [if_neg hh]
    have HH := Lib.hid (fun W => holds_any (n := n) ha W)
    rw [show decide (hol a n) = false from decide_eq_false hh] at HH
    clear h hh ha
    go_enter Try.func19, Try.ntmps19
    go_wp2_with (first | (with_reducible refine (HH.out _).mono ?_; rintro e w' ⟨rfl, rfl⟩) | fail)
    go_ret2
    exact ⟨_, rfl, BW.nil _ _, Ch.refl _ _⟩
end Go.Proofs.Ytlffcccicpdnfaa
