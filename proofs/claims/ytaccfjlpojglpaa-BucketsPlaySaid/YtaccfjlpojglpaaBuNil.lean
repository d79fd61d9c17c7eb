/-
  The law BucketsNil, walked.
-/
import Derived.Test.YtaccfjlpojglpaaBuK
namespace Go.Proofs.Ytaccfjlpojglpaa
open Go.RowKit bI

attribute [local go_sem] Oper.semAt_some

theorem tg_nil (w : World) : TG w w.heap.size none 0 [] := .inl ⟨rfl, rfl, rfl⟩
theorem del_nil (k : Nat) (w : World) (t : TypeId) (ht : t = 29) : Calls Try.prog 12 #[.pointer none, .slice (some ⟨w.heap.size, 0, none⟩) 1 1] (w.alloc (.cells #[.int .u64 (k : Int)] t)) fun e w' => e = .returned (.int .i64 0) ∧ Ch [] w w' := by
  subst ht
  have hb : (w.alloc (.cells #[.int .u64 (k : Int)] 29)).heap[w.heap.size]? = some (.cells #[.int .u64 (k : Int)] 29 (0, 0)) := World.alloc_heap_new w _
  refine (callsIn_wide.1 (del_in 0 (w.alloc (.cells #[.int .u64 (k : Int)] 29)).heap.size 0 0 none [] (some ⟨w.heap.size, 0, none⟩) 1 1 [k] _ (.inl ⟨rfl, rfl, rfl⟩) (Nat.le_refl _) rfl (by omega) (fun W hW => .inr ⟨w.heap.size, 0, rfl, fun j x hj => ?_⟩))).mono ?_
  · rw [Nat.zero_add, (cell_plain (hW.blk hb (by decide) (by decide)) j).1]
    match j, hj with
    | 0, hj => simp at hj; subst hj; rfl
    | j + 1, hj => simp at hj
  · rintro r w' ⟨rfl, _, htn⟩
    refine ⟨?_, (((Ch.refl [] w).alloc _).trans (htn.ch (Ch.refl _ _) (Nat.le_refl _)))⟩
    simp [delsE, delE, ksE]

set_option maxHeartbeats 1000000 in
theorem nil_law (k : Nat) (n : Int) (w : World) : Calls Try.prog 6 #[.int .u64 (k : Int), .int .i64 n] w fun e w' => e = .returned (.bool true) ∧ Ch [] w w' := by
  have HP := Lib.hid (fun W => put_nil k n W)
  have HG := Lib.hid (fun W => get_any (tg_nil W) k)
  have HD := Lib.hid (fun W => del_nil k W _ rfl)
  have HB := Lib.hid (fun W => bucket_any (tg_nil W) k)
  have HC := Lib.hid (fun W => chain_any n (tg_nil W))
  have HK := Lib.hid (fun W => keys_any (tg_nil W))
  have HL := Lib.hid (fun W => len_any (tg_nil W))
  have HKn := Lib.hid (fun W => known_any W)
  go_enter Try.func6, Try.ntmps6
  go_wp2_with fail
  with_reducible refine (HP.out _).mono ?_
  rintro e w1 ⟨rfl, hw1⟩
  subst w1
  go_wp2_with fail
  with_reducible refine (HG.out _).mono ?_
  rintro e w1 ⟨rfl, hc1⟩
  have HC1 := Lib.hid hc1
  rw [show (valE ([] : List E) k).getD v0 = 0 from rfl, show (valE ([] : List E) k).isSome = false from rfl]
  clear hc1
  go_wp2_with fail
  with_reducible refine (HKn.out _).mono ?_
  rintro e w2 ⟨rfl, hc2⟩
  have HC2 := Lib.hid (HC1.out.trans hc2)
  clear hc2 HC1
  go_wp2_with fail
  with_reducible refine (HD.out _).mono ?_
  rintro e w3 ⟨rfl, hc3⟩
  have HC3 := Lib.hid (HC2.out.trans hc3)
  clear hc3 HC2
  go_wp2_with fail
  with_reducible refine (HB.out _).mono ?_
  rintro e w4 ⟨rfl, hw4⟩
  subst w4
  rw [show ((bk 0 k : Nat) : Int) = 0 from rfl]
  go_wp2_with fail
  with_reducible refine (HC.out _).mono ?_
  rintro e w4 ⟨v, rfl, hr, hc4⟩
  rw [show chI 0 ([] : List E) n = [] from by unfold chI; split <;> rfl] at hr
  obtain ⟨a, cap, rfl⟩ := own_form hr
  have HC4 := Lib.hid (HC3.out.trans hc4)
  have h0 : ([] : List E).length = 0 := rfl
  rw [h0]
  clear hr hc4 HC3 h0
  go_wp2_with fail
  with_reducible refine (HK.out _).mono ?_
  rintro e w5 ⟨v, rfl, hr, hc5⟩
  obtain ⟨a5, cap5, rfl⟩ := own_form hr
  have HC5 := Lib.hid (HC4.out.trans hc5)
  have h0 : (keysE 0 ([] : List E)).length = 0 := rfl
  rw [h0]
  clear hr hc5 HC4 h0
  go_wp2_with fail
  with_reducible refine (HL.out _).mono ?_
  rintro e w6 ⟨rfl, hw6⟩
  subst w6
  go_wp2
  go_ret
  exact ⟨rfl, HC5.out⟩
end Go.Proofs.Ytaccfjlpojglpaa
