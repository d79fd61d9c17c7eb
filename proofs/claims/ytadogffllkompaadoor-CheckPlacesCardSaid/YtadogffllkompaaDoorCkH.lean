/-
  Code (instructions as the program's); Calls.
-/
import Derived.Test.YtadogffllkompaaDoorCkG
namespace Go.Proofs.YtadogffllkompaaDoor
open Go.RowKit

attribute [local go_sem] Oper.semAt_some

theorem InsAt.at {w : World} {b off : Nat} {L : List I5} (h : ∀ i (hi : i < L.length), FiveO w b (off + i * 5) L[i]) {k : Nat} (hk : k < L.length) : FiveO w b (off + k * 5) (ia L k) := by
  have := h k hk
  rwa [ia_at hk] at this
theorem take_ia {L : List I5} {k : Nat} (hk : k < L.length) : L.take (k + 1) = L.take k ++ [ia L k] := by
  rw [List.take_succ_eq_append_getElem hk, ia_at hk]

set_option maxHeartbeats 4000000 in
theorem code_any {w : World} {a : Option Addr} {n cap m : Nat} {L : List I5} (hn : L.length = n) (hm : m ≤ 1000) (hL : InsAt w a L) :
    Calls Tryd.prog 11 #[.slice a n cap, .int .i64 (m : Int)] w fun e w' => ∃ v, e = .returned v ∧ IR w' w.heap.size 51 v (L.take m) ∧ Ch [] w w' := by
  obtain ⟨i0, hI, hz0, hz1, hz2⟩ : ∃ i : TypeInfo, Tryd.prog.info? 51 = some i ∧ i.zero = some (.agg #[.int .i64 0, .int .i64 0, .int .i64 0, .int .i64 0, .int .i64 0]) ∧ i.size = 5 ∧ i.bytes = 40 := by
    refine ⟨_, rfl, by kernel_rfl, by kernel_rfl, by kernel_rfl⟩
  have HN := Lib.hid hn
  have HL := Lib.hid hL
  clear hn hL
  go_enter Tryd.func11, Tryd.ntmps11
  go_wp2_with fail
  go_loopw [5, 6] (fun v i wr => ∃ j : Nat, i = .int .i64 (j : Int) ∧ j ≤ n ∧ j ≤ m ∧ IR wr w.heap.size 51 v (L.take j) ∧ Ch [] w wr) (fun _ i _ => m - (intOf i).toNat)
  case atStart => exact ⟨0, rfl, Nat.zero_le _, Nat.zero_le _, IR.nil _ _ _, Ch.refl _ _⟩
  case round =>
    obtain ⟨j, rfl, hjn, hjm, hr, hc⟩ := hrel
    have HR := Lib.hid hr
    have HC := Lib.hid hc
    clear hr hc
    have HE := Lib.hid (show ¬ (j < n ∧ j < m) → L.take j = L.take m from fun h => by
      have := HN.out
      by_cases h1 : j = m
      · rw [h1]
      · rw [List.take_of_length_le (by omega), List.take_of_length_le (by omega)])
    by_cases h1 : j < n
    · by_cases h2 : j < m
      · have h1' : (j : Int) < (n : Int) := by omega
        have h2' : (j : Int) < (m : Int) := by omega
        rcases HL.out with h0 | ⟨b, off, rfl, hcl⟩
        · exfalso; have := HN.out; rw [h0] at this; simp at this; omega
        · have hf := InsAt.at hcl (k := j) (by have := HN.out; omega)
          obtain ⟨c0, c1, c2, c3, c4⟩ := hf.ch HC.out (by simp)
          have HS := Lib.hid (take_ia (L := L) (k := j) (by have := HN.out; omega))
          have hlen : (L.take j).length = j := by rw [List.length_take]; have := HN.out; omega
          have HLen := Lib.hid hlen
          have HTo := Lib.hid (fun w => to_any (ia L j) w)
          generalize ia L j = x at *
          obtain ⟨op, d, s, o, i⟩ := x
          unfold iv at *
          simp only at *
          have HR1 := HR.out
          unfold IR at HR1
          rw [hlen] at HR1
          have HR2 := Lib.hid HR1
          obtain ⟨av, ac, rfl⟩ := own_form HR1
          clear HR1 hlen hf hcl HL h1 h2
          go_wp2_with fail
          with_reducible refine (HTo.out _).mono ?_
          rintro e w1 ⟨rfl, hc1⟩
          have HC1 := Lib.hid (HC.out.trans hc1)
          have HR3 := Lib.hid (own_ch HR2.out hc1 (by simp))
          clear hc1 c0 c1 c2 c3 c4
          go_wp2_with (at_builtin; go_must (refine wpList_append_own _ rfl _ _ 27 rfl w.heap.size 51 i0 (.agg #[.int .i64 0, .int .i64 0, .int .i64 0, .int .i64 0, .int .i64 0]) 5 40 Tryd.underlying27 hI hz0 hz1 hz2 rfl (by decide) _ j ((L.take j).flatMap fiv) rfl (HR3.out.alloc _) ⟨w1.heap.size, 0, none⟩ 1 1 (fiv ⟨op, d, s, o, i⟩) rfl rfl (cells_five w1 ⟨op, d, s, o, i⟩ _) (by simp [fiv, Value.oneCell']) (by unfold maxLen; omega) (by omega) (by have := HC1.out.size; simp; omega) ?_); intro v3 w3 hown3 hgrow3 hnil3; refine Hid.out ?_)
          refine Lib.hid ?_
          have HC3 := Lib.hid (own_new (HC1.out.alloc _) hgrow3 (Nat.le_refl _) (HR3.out.alloc _))
          have HR4 := Lib.hid (show IR w3 w.heap.size 51 v3 (L.take (j + 1)) by rw [HS.out]; exact IR.snoc (by rw [HLen.out]; exact hown3))
          obtain ⟨av3, ac3, rfl⟩ := own_form hown3
          clear hown3 hgrow3 hnil3
          go_wp2_with fail
          go_roundw
          case rel => exact ⟨j + 1, by go_num, by omega, by omega, HR4.out, HC3.out⟩
          case measure => simp [intOf]; omega
      · have h1' : (j : Int) < (n : Int) := by omega
        have h2' : ¬ (j : Int) < (m : Int) := by omega
        have he := HE.out (fun h => h2 h.2)
        have HR1 := Lib.hid (he ▸ HR.out)
        obtain ⟨av, ac, hf⟩ := own_form HR1.out
        obtain ⟨q, hq⟩ : ∃ q, q = (L.take m).length := ⟨_, rfl⟩
        rw [← hq] at hf
        subst hf
        clear he h1 h2 hq
        go_wp2_with fail
        go_ret
        exact ⟨_, rfl, HR1.out, HC.out⟩
    · have h1' : ¬ (j : Int) < (n : Int) := by omega
      have he := HE.out (fun h => h1 h.1)
      have HR1 := Lib.hid (he ▸ HR.out)
      obtain ⟨av, ac, hf⟩ := own_form HR1.out
      obtain ⟨q, hq⟩ : ∃ q, q = (L.take m).length := ⟨_, rfl⟩
      rw [← hq] at hf
      subst hf
      clear he h1 hq
      go_wp2_with fail
      go_ret
      exact ⟨_, rfl, HR1.out, HC.out⟩

/-- Which helpers are named. -/
def calF (m : Nat) (x : I5) : Nat := if x.op = 72 ∧ hlp x.i = true then Mk.withN m [x.i] else m
def calN (L : List I5) : Nat := L.foldl calF 0
theorem calF_lt {m : Nat} (x : I5) (h : m < 18446744073709551616) : calF m x < 18446744073709551616 := by
  unfold calF
  split
  · exact Mk.withN_lt _ _ h
  · exact h
theorem cal_lt : ∀ (L : List I5) {m : Nat}, m < 18446744073709551616 → L.foldl calF m < 18446744073709551616
  | [], _, h => h
  | x :: L, _, h => cal_lt L (calF_lt x h)
theorem calF_bit (m : Nat) (x : I5) (t : Nat) : (calF m x).testBit t = true ↔ m.testBit t = true ∨ (x.op = 72 ∧ hlp x.i = true ∧ x.i = (t : Int)) := by
  unfold calF
  by_cases h : x.op = 72 ∧ hlp x.i = true
  · rw [if_pos h]
    have h2 := h.2
    unfold hlp at h2
    rw [decide_eq_true_eq] at h2
    obtain ⟨k, hk⟩ : ∃ k : Nat, x.i = (k : Int) := ⟨x.i.toNat, by omega⟩
    rw [hk, withN_bit]
    simp only [Bool.or_eq_true, Bool.and_eq_true, decide_eq_true_eq]
    rw [hk] at h
    constructor
    · rintro (a | ⟨_, a⟩)
      · exact .inl a
      · exact .inr ⟨h.1, h.2, by omega⟩
    · rintro (a | ⟨_, _, a⟩)
      · exact .inl a
      · exact .inr ⟨by omega, by omega⟩
  · rw [if_neg h]
    constructor
    · exact .inl
    · rintro (a | ⟨a, b, _⟩)
      · exact a
      · exact absurd ⟨a, b⟩ h
theorem cal_bit (t : Nat) : ∀ (L : List I5) (m : Nat), (L.foldl calF m).testBit t = true ↔ m.testBit t = true ∨ ∃ x ∈ L, x.op = 72 ∧ hlp x.i = true ∧ x.i = (t : Int)
  | [], m => by simp
  | x :: L, m => by
    rw [List.foldl_cons, cal_bit t L, calF_bit]
    constructor
    · rintro ((a | a) | ⟨y, h1, h2⟩)
      · exact .inl a
      · exact .inr ⟨x, by simp, a⟩
      · exact .inr ⟨y, by simp [h1], h2⟩
    · rintro (a | ⟨y, h1, h2⟩)
      · exact .inl (.inl a)
      · rcases List.mem_cons.1 h1 with rfl | h1
        · exact .inl (.inr h2)
        · exact .inr ⟨y, h1, h2⟩

set_option maxHeartbeats 4000000 in
theorem calls_any {w : World} {a : Option Addr} {n cap : Nat} {L : List I5} (hn : L.length = n) (hn2 : n ≤ 1000) (hL : InsAt w a L) (hT : Tb w) :
    Calls Tryd.prog 18 #[.slice a n cap] w fun e w' => e = .returned (.int .u64 ((calN L : Nat) : Int)) ∧ Ch [] w w' := by
  have HN := Lib.hid hn
  have HL := Lib.hid hL
  have HT := Lib.hid hT
  clear hn hL hT
  go_enter Tryd.func18, Tryd.ntmps18
  go_wp2_with fail
  go_loopw [3, 11] (fun v i wr => ∃ j : Nat, i = .int .i64 (j : Int) ∧ j ≤ n ∧ v = .int .u64 (((L.take j).foldl calF 0 : Nat) : Int) ∧ Ch [] w wr) (fun _ i _ => n - (intOf i).toNat)
  case atStart => exact ⟨0, rfl, Nat.zero_le _, rfl, Ch.refl _ _⟩
  case round =>
    obtain ⟨j, rfl, hjn, rfl, hc⟩ := hrel
    have HC := Lib.hid hc
    clear hc
    by_cases h1 : j < n
    · have h1' : (j : Int) < (n : Int) := by omega
      rcases HL.out with h0 | ⟨b, off, rfl, hcl⟩
      · exfalso; have := HN.out; rw [h0] at this; simp at this; omega
      · have hf := InsAt.at hcl (k := j) (by have := HN.out; omega)
        obtain ⟨c0, c1, c2, c3, c4⟩ := hf.ch HC.out (by simp)
        have HS := Lib.hid (show (L.take (j + 1)).foldl calF 0 = calF ((L.take j).foldl calF 0) (ia L j) by rw [take_ia (by have := HN.out; omega), List.foldl_append]; rfl)
        have HLt := Lib.hid (cal_lt (L.take j) (m := 0) (by decide))
        generalize ia L j = x at *
        generalize (L.take j).foldl calF 0 = M at *
        obtain ⟨op, d, s, o, i⟩ := x
        simp only at *
        have HF := Lib.hid (Five.new wr ⟨op, d, s, o, i⟩ 51)
        have HC1 := Lib.hid (HC.out.alloc (.cells #[.int .i64 op, .int .i64 d, .int .i64 s, .int .i64 o, .int .i64 i] 51))
        have HH := Lib.hid (fun w' (h : Ch [] w w') => help_any i (HT.out.ch h))
        unfold hV at HH
        clear hf hcl HL h1
        go_wp2_with fail
        with_reducible refine (HH.out _ HC1.out).mono ?_
        rintro e w1 ⟨rfl, nd, rfl⟩
        obtain ⟨w1, hw1⟩ : ∃ w1, (wr.alloc (.cells #[.int .i64 op, .int .i64 d, .int .i64 s, .int .i64 o, .int .i64 i] 51)).drewN nd = w1 := ⟨_, rfl⟩
        have HC2 := Lib.hid (show Ch [] w w1 by rw [← hw1]; exact HC1.out.drewN nd)
        have hf2 : Five w1 wr.heap.size ⟨op, d, s, o, i⟩ := by rw [← hw1]; exact HF.out.ch ((Ch.refl [] _).drewN nd) (by simp)
        rw [hw1]
        obtain ⟨a0, a1, a2, a3, a4⟩ := hf2
        simp only at a0 a1 a2 a3 a4
        clear hw1 c0 c1 c2 c3 c4
        cases hh : hlp i with
        | false =>
          have HE := Lib.hid (show calF M ⟨op, d, s, o, i⟩ = M by unfold calF; rw [if_neg (by rw [hh]; simp)])
          clear hh
          go_wp2_with fail
          go_roundw
          case rel => exact ⟨j + 1, by go_num, by omega, by rw [HS.out, HE.out], HC2.out⟩
          case measure => simp [intOf]; omega
        | true =>
          by_cases h72 : op = 72
          · have HE := Lib.hid (show calF M ⟨op, d, s, o, i⟩ = Mk.withN M [i] by unfold calF; rw [if_pos ⟨h72, hh⟩])
            subst h72
            have HW := Lib.hid (withL M HLt.out i w1.heap.size (w1.alloc (.cells #[.int .i64 i] 3)) (cell_new _ _ _).1)
            clear hh
            go_wp2_with (first
              | (go_at_call 28; with_reducible refine HW.out.mono ?_; rintro e w9 ⟨rfl, rfl⟩)
              | fail)
            go_roundw
            case rel => exact ⟨j + 1, by go_num, by omega, by rw [HS.out, HE.out], HC2.out.alloc _⟩
            case measure => simp [intOf]; omega
          · have HE := Lib.hid (show calF M ⟨op, d, s, o, i⟩ = M by unfold calF; rw [if_neg (fun h => h72 h.1)])
            have e72 : (op == 72) = false := by simpa using h72
            clear hh h72
            go_wp2_with fail
            go_roundw
            case rel => exact ⟨j + 1, by go_num, by omega, by rw [HS.out, HE.out], HC2.out⟩
            case measure => simp [intOf]; omega
    · obtain rfl : j = n := by omega
      have he : L.take j = L := List.take_of_length_le (by have := HN.out; omega)
      have HE := Lib.hid he
      clear h1 he
      go_wp2_with fail
      go_ret
      exact ⟨by rw [HE.out]; rfl, HC.out⟩
end Go.Proofs.YtadogffllkompaaDoor
