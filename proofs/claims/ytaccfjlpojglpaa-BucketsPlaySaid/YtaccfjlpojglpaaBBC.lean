/-
  A table of values of bool: a bucket's keys with their places, one by one.
-/
import Derived.Test.YtaccfjlpojglpaaBBB
namespace Go.Proofs.Ytaccfjlpojglpaa.bB
open Go.RowKit Go.Shelf

attribute [local go_sem] Oper.semAt_some

/-- The key at a place. -/
def kA (C : List E) (j : Nat) : Nat := (ksE C).getD j 0
theorem kA_at {C : List E} {j : Nat} {e : E} (h : C[j]? = some e) : kA C j = e.k := by
  unfold kA
  rw [List.getD_eq_getElem?_getD, show (ksE C)[j]? = some e.k by simp [ksE, h]]
  rfl
/-- What is yielded at a place. -/
def encP (C : List E) (j : Nat) : Array Value := #[.int .i64 (j : Int), .int .u64 ((kA C j : Nat) : Int)]
theorem encP_at {C : List E} {j : Nat} {e : E} (h : C[j]? = some e) : encP C j = #[.int .i64 (j : Int), .int .u64 (e.k : Int)] := by
  unfold encP
  rw [kA_at h]

theorem places_in (m : Nat) (p : Option Addr) (z : Int) (w : World) :
    CallsIn Fence.wide m Try.prog 49 #[.pointer p, .int .i64 z] w fun e w' =>
      e = .returned (.func (.func 59) #[] #[.pointer (some ⟨w.heap.size + 1, 0, none⟩), .pointer (some ⟨w.heap.size, 0, none⟩)]) ∧ w' = (w.alloc (.cells #[.pointer p] 63)).alloc (.cells #[.int .i64 z] 3) := by
  refine callsIn_of_wp Try.func49 rfl trivial ?_ rfl
  simp only [Try.ntmps49, List.size_toArray, List.length_cons, List.length_nil, Nat.reduceAdd, Nat.reduceSub, Array.replicate_succ, Array.replicate_zero, List.push_toArray, List.append_toArray, List.nil_append, List.cons_append]
  gi_wp2
  go_ret
  exact ⟨rfl, rfl⟩

set_option maxRecDepth 100000 in
set_option maxHeartbeats 1000000 in
theorem places1_in (n l Bz Bt S m : Nat) (p : Option Addr) (z : Int) (L C : List E) (hC : C = chI m L z) (J Jx : List Nat → World → Prop) (hJ : ∀ pre W W', J pre W → Ch [] W W' → J pre W')
    (hY : ∀ pre x W, J pre W → pre ++ [x] <+: List.range C.length → YieldAt Fence.wide (n - 1) Try.prog l (encP C x) W fun e W' => (e = .returned (.bool true) ∧ J (pre ++ [x]) W' ∧ KpT 102 W W') ∨ (e = .returned (.bool false) ∧ Jx (pre ++ [x]) W'))
    (W : World) (hz : W.cell? ⟨Bz, 0, none⟩ = some (.int .i64 z)) (hp : W.cell? ⟨Bt, 0, none⟩ = some (.pointer p)) (hT : TG W S p m L) (h0 : J [] W) :
    CallsIn Fence.wide n Try.prog 59 #[.func (.yield l) #[] #[], .pointer (some ⟨Bz, 0, none⟩), .pointer (some ⟨Bt, 0, none⟩)] W fun e W' => (∃ v, e = .returned v) ∧
      ((∃ ys, ys = List.range C.length ∧ J ys W') ∨ (∃ pre, pre <+: List.range C.length ∧ Jx pre W')) := by
  have HY := Lib.hid hY
  have HJ := Lib.hid hJ
  have HT := Lib.hid hT
  have HB := Lib.hid (fun nq => buckets_any (hT.quiet ((Ch.refl [] W).drewN nq)))
  have H0 := Lib.hid h0
  clear hY hJ hT h0
  have hw : ∀ f, Fence.wide.fn f := fun _ => trivial
  have hd : Fence.wide.depth = none := rfl
  refine callsIn_of_wp Try.func59 rfl trivial ?_ rfl
  simp only [Try.ntmps59, List.size_toArray, List.length_cons, List.length_nil, Nat.reduceAdd, Nat.reduceSub, Array.replicate_succ, Array.replicate_zero, List.push_toArray, List.append_toArray, List.nil_append, List.cons_append]
  by_cases hz0 : z < 0
  · have HC := Lib.hid (show C = [] by rw [hC, chI_out (.inl hz0)])
    have hz1 : decide (z < 0) = true := decide_eq_true hz0
    clear hC
    gi_wp2_with fail
    rw [wpIn_wide]
    go_quiet ((go_at_call 48; exact Calls.quiet_of_same (HB.out _)))
    gi_wp2
    refine bodyPost_ret (results_none rfl _ _ _) rfl ?_
    exact ⟨⟨_, rfl⟩, .inl ⟨[], by rw [HC.out]; rfl, HJ.out _ _ _ H0.out ((Ch.refl [] W).drewN nq)⟩⟩
  · have hz1 : decide (z < 0) = false := decide_eq_false hz0
    by_cases hzm : (m : Int) ≤ z
    · have HC := Lib.hid (show C = [] by rw [hC, chI_out (.inr hzm)])
      have hz2 : decide ((m : Int) ≤ z) = true := decide_eq_true hzm
      clear hC
      gi_wp2_with fail
      rw [wpIn_wide]
      go_quiet ((go_at_call 48; exact Calls.quiet_of_same (HB.out _)))
      gi_wp2
      refine bodyPost_ret (results_none rfl _ _ _) rfl ?_
      exact ⟨⟨_, rfl⟩, .inl ⟨[], by rw [HC.out]; rfl, HJ.out _ _ _ H0.out ((Ch.refl [] W).drewN nq)⟩⟩
    · obtain ⟨b, rfl⟩ : ∃ b : Nat, z = (b : Int) := ⟨z.toNat, by omega⟩
      have hb : b < m := by omega
      rw [chI_in hb] at hC
      have hz2 : decide ((m : Int) ≤ (b : Int)) = false := decide_eq_false hzm
      have hz3 : decide (m ≤ b) = false := decide_eq_false (by omega)
      have hb0 : (0 : Int) ≤ (b : Int) := by omega
      have hb1 : (b : Int) < (m : Int) := by omega
      rcases HT.out with ⟨_, h0, _⟩ | ⟨R, K, room, H, rfl, ht⟩
      · omega
      have c1 := ht.c1
      obtain ⟨cH, _⟩ := ht.head hb
      have hrow := ht.rows b hb
      rw [← hC] at hrow
      have hl64 : C.length ≤ 64 := by have := ht.hl; have := ht.hr; have := chn_len m b L; rw [← hC] at this; omega
      obtain ⟨a, cap, hf, _⟩ := CR.form hrow
      obtain ⟨v, hv⟩ : ∃ v, v = H b := ⟨_, rfl⟩
      rw [← hv] at cH hf hrow
      obtain ⟨q, hq⟩ : ∃ q, q = C.length := ⟨_, rfl⟩
      rw [← hq] at hf hl64
      have HQ := Lib.hid hq
      subst hf
      have HR := Lib.hid hrow
      clear hC ht hrow hv hzm hz0 hq
      gi_wp2_with fail
      rw [wpIn_wide]
      go_quiet ((go_at_call 48; exact Calls.quiet_of_same (HB.out _)))
      obtain ⟨n1, hn1⟩ : ∃ n1, n1 = nq := ⟨_, rfl⟩
      rw [← hn1]
      clear hn1
      gi_wp2_with fail
      rw [wpIn_wide]
      go_quiet (fail)
      obtain ⟨W2, hW2⟩ : ∃ W2, W2 = (W.drewN n1).drewN nq := ⟨_, rfl⟩
      have HJ2 := Lib.hid (show J [] W2 by rw [hW2]; exact HJ.out _ _ _ H0.out (((Ch.refl [] W).drewN n1).drewN nq))
      have HR2 := Lib.hid (show W2.ownsRow S 102 2 (.slice a q cap) C.length (cells C) by rw [hW2]; exact HR.out)
      rw [← hW2]
      clear hW2 HR H0 c1 cH hz hp
      gi_wp2_with fail
      gi_loopw [22] (fun r wr => ∃ k : Nat, k ≤ q ∧ r = .int .i64 (k : Int) ∧ J (List.range k) wr ∧ wr.ownsRow S 102 2 (.slice a q cap) C.length (cells C)) (fun r _ => q - (intOf r).toNat)
      case atStart => exact ⟨0, Nat.zero_le _, rfl, HJ2.out, HR2.out⟩
      case round =>
        obtain ⟨k, hk, rfl, hJk, hrow⟩ := hrel
        have HJk := Lib.hid hJk
        have HRk := Lib.hid hrow
        clear hJk
        by_cases hlt : k < q
        · obtain ⟨e, he⟩ : ∃ e, C[k]? = some e := ⟨_, List.getElem?_eq_getElem (by rw [← HQ.out]; exact hlt)⟩
          obtain ⟨a', cap', hv, _, _, _, hat⟩ := CR.form hrow
          obtain ⟨g, rfl, k0, k1, _⟩ := hat k e he
          obtain ⟨rfl, -, rfl⟩ : a = some ⟨g, 0, none⟩ ∧ q = C.length ∧ cap = cap' := by simpa using hv
          have HPr := Lib.hid (range_snoc' (show k < C.length by rw [← HQ.out]; exact hlt))
          have hE := encP_at he
          clear hrow hat hv he
          have hb0 : (0 : Int) ≤ (k : Int) := by omega
          have hb1 : (k : Int) < (q : Int) := by omega
          have hal : Ch [] wr (wr.alloc (.cells #[.int .u64 (e.k : Int), vv e.v] 102)) := (Ch.refl [] wr).alloc _
          obtain ⟨fn, tmps, assign, body, hy, hR⟩ := HY.out (List.range k) k (wr.alloc (.cells #[.int .u64 (e.k : Int), vv e.v] 102)) (HJ.out _ _ _ HJk.out hal) HPr.out
          rw [hE] at hy
          have HRk2 := Lib.hid (HRk.out.alloc (.cells #[.int .u64 (e.k : Int), vv e.v] 102))
          clear hal hE
          gi_wp2
          refine hR.mono ?_
          rintro e' W3 (⟨rfl, hJ3, hk3⟩ | ⟨rfl, hJx3⟩)
          · have HK := Lib.hid hk3
            have HJ3 := Lib.hid hJ3
            clear hk3 hJ3
            gi_wp2
            go_roundw
            case rel => exact ⟨k + 1, by omega, by go_num, by rw [List.range_succ]; exact HJ3.out, own_kpT HRk2.out HK.out⟩
            case measure => simp [intOf]; omega
          · gi_wp2
            refine bodyPost_ret (results_none rfl _ _ _) rfl ?_
            exact ⟨⟨_, rfl⟩, .inr ⟨_, HPr.out, hJx3⟩⟩
        · gi_wp2
          go_end0
          have hkq : k = C.length := by have := HQ.out; omega
          exact ⟨⟨_, rfl⟩, .inl ⟨_, rfl, by rw [← hkq]; exact HJk.out⟩⟩

theorem places_stops (n : Nat) {Bz Bt S m : Nat} {p : Option Addr} {z : Int} {L : List E} (w : World) (hz : w.cell? ⟨Bz, 0, none⟩ = some (.int .i64 z)) (hp : w.cell? ⟨Bt, 0, none⟩ = some (.pointer p)) (hT : TG w S p m L) :
    SeqP Fence.wide n Try.prog 59 #[.pointer (some ⟨Bz, 0, none⟩), .pointer (some ⟨Bt, 0, none⟩)] (fun j : Nat => #[.int .i64 (j : Int), .int .u64 ((kA (chI m L z) j : Nat) : Int)]) (Ch []) (KpT 102) (fun ys => ys = List.range (chI m L z).length) (fun pre => pre <+: List.range (chI m L z).length) w := fun l J Jx W hW hJ hY h0 =>
  places1_in n l Bz Bt S m p z L _ rfl J Jx hJ hY W ((hW.cell (p := ⟨Bz, 0, none⟩) (cell_lt hz)).trans hz) ((hW.cell (p := ⟨Bt, 0, none⟩) (cell_lt hp)).trans hp) (hT.quiet (Ch.of_below hW)) h0
end Go.Proofs.Ytaccfjlpojglpaa.bB
