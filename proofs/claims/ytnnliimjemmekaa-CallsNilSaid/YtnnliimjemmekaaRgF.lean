/-
  Contracts of a ring of things of two parts: the iterator over its things.
-/
import Derived.RangeFuncNested
import Derived.RangeFuncBound
import Derived.RangeFuncBox
import Derived.RangeFuncCalls
import Derived.RangeFuncLeaves
import Derived.Shelf.Abstract
import Derived.Shelf.RegionOpen
import Derived.OwnWalkIn
import Derived.TacticsInMore
import Derived.LoopNIn
import Derived.LoopIn
import Derived.Maps.AppendAt
import Derived.Test.YtnnliimjemmekaaRgL
namespace Go.Proofs.Ytnnliimjemmekaa.rC
open Go.RowKit Go.Shelf

attribute [local go_sem] Oper.semAt_some

/-- A thing as one value. -/
def tv (x : Th) : Value := .agg #[.int .i64 x.1, .int .i64 x.2]

theorem RC.same {W W' : World} {R G room first held : Nat} {L : Nat → Th} (h : RC W R G room first held L) (hR : W'.heap[R]? = W.heap[R]?) (hG : W'.heap[G]? = W.heap[G]?) : RC W' R G room first held L :=
  have r : ∀ o, W'.cell? ⟨R, o, none⟩ = W.cell? ⟨R, o, none⟩ := fun o => World.cell?_of_block (a := ⟨R, o, none⟩) hR
  have g : ∀ o, W'.cell? ⟨G, o, none⟩ = W.cell? ⟨G, o, none⟩ := fun o => World.cell?_of_block (a := ⟨G, o, none⟩) hG
  have rf : ∀ o, W'.frozen? ⟨R, o, none⟩ = W.frozen? ⟨R, o, none⟩ := fun o => World.frozen?_of_block (a := ⟨R, o, none⟩) hR
  have gf : ∀ o, W'.frozen? ⟨G, o, none⟩ = W.frozen? ⟨G, o, none⟩ := fun o => World.frozen?_of_block (a := ⟨G, o, none⟩) hG
  ⟨h.ne, h.r1, h.r2, h.fr, h.hr, (r _).trans h.c0, (r _).trans h.c1, (r _).trans h.c2, (rf _).trans h.f1, (rf _).trans h.f2,
    fun j hj => (g _).trans (h.cs j hj), fun j hj => (g _).trans (h.ct j hj), fun j hj => (gf _).trans (h.fs j hj), fun j hj => (gf _).trans (h.ft j hj)⟩
theorem RC.keep {S : Nat → Prop} {W W' : World} {R G room first held : Nat} {L : Nat → Th} (h : RC W R G room first held L) (hk : Keep S W W') (hR : S R) (hG : S G) : RC W' R G room first held L :=
  h.same (hk.same hR h.c0) (hk.same hG (h.cs 0 (by have := h.r1; omega)))

/-- What a ring holds, in order. -/
def cont (held : Nat) (L : Nat → Th) : List Th := (List.range held).map L
theorem cont_len (held : Nat) (L : Nat → Th) : (cont held L).length = held := by simp [cont]
theorem cont_take (held k : Nat) (L : Nat → Th) (h : k < held) : (cont held L).take (k + 1) = (cont held L).take k ++ [L k] := by
  rw [List.take_succ_eq_append_getElem (by rw [cont_len]; exact h)]
  simp [cont]
theorem cont_full (held : Nat) (L : Nat → Th) : (cont held L).take held = cont held L := List.take_of_length_le (by rw [cont_len]; exact Nat.le_refl _)
theorem cont_prefix (held k : Nat) (L : Nat → Th) (h : k < held) : (cont held L).take k ++ [L k] <+: cont held L := by
  rw [← cont_take held k L h]; exact List.take_prefix _ _

theorem things_in (n : Nat) (p : Option Addr) (w : World) :
    CallsIn Fence.wide n Try.prog 37 #[.pointer p] w fun e w' => e = .returned (.func (.func 39) #[] #[.pointer (some ⟨w.heap.size, 0, none⟩)]) ∧ w' = w.alloc (.cells #[.pointer p] 63) := by
  refine callsIn_of_wp Try.func37 rfl trivial ?_ rfl
  simp only [Try.ntmps37, List.size_toArray, List.length_cons, List.length_nil, Nat.reduceAdd, Nat.reduceSub, Array.replicate_succ, Array.replicate_zero, List.push_toArray, List.append_toArray, List.nil_append, List.cons_append]
  gi_wp2
  go_ret
  exact ⟨rfl, rfl⟩

set_option maxRecDepth 100000 in
set_option maxHeartbeats 1000000 in
theorem things1_in (n : Nat) (l Bn R G room first : Nat) (held : Nat) (L : Nat → Th) (S : Nat → Prop) (sB : S Bn) (sR : S R) (sG : S G) (J Jx : List Th → World → Prop) (hJ : ∀ pre W W', J pre W → Ch [] W W' → J pre W')
    (hY : ∀ pre x W, J pre W → pre ++ [x] <+: cont held L → YieldAt Fence.wide (n - 1) Try.prog l #[tv x] W fun e W' =>
      (e = .returned (.bool true) ∧ J (pre ++ [x]) W' ∧ Keep S W W') ∨ (e = .returned (.bool false) ∧ Jx (pre ++ [x]) W'))
    (W : World) (hb : W.cell? ⟨Bn, 0, none⟩ = some (.pointer (some ⟨R, 0, none⟩))) (hL : RC W R G room first held L) (h0 : J [] W) :
    CallsIn Fence.wide n Try.prog 39 #[.func (.yield l) #[] #[], .pointer (some ⟨Bn, 0, none⟩)] W fun e W' => (∃ v, e = .returned v) ∧
      ((∃ ys, ys = cont held L ∧ J ys W') ∨ (∃ pre, pre <+: cont held L ∧ Jx pre W')) := by
  have hr0 := hL.hr
  have hr2 := hL.r2
  have h256 : held ≤ 256 := by omega
  have HY := Lib.hid hY
  have HL := Lib.hid hL
  have HJ := Lib.hid hJ
  have HX := Lib.hid hb
  have hc := hb
  clear hY hL hJ hb
  refine callsIn_of_wp Try.func39 rfl trivial ?_ rfl
  simp only [Try.ntmps39, List.size_toArray, List.length_cons, List.length_nil, Nat.reduceAdd, Nat.reduceSub, Array.replicate_succ, Array.replicate_zero, List.push_toArray, List.append_toArray, List.nil_append, List.cons_append]
  have hw : ∀ f, Fence.wide.fn f := fun _ => trivial
  have hd : Fence.wide.depth = none := rfl
  gi_wp2_with (gi_at_call 31; refine (callsIn_wide.2 (len_any HL.out)).mono ?_; rintro e w' ⟨rfl, rfl⟩)
  gi_loopw [6] (fun r wr => ∃ k : Nat, k ≤ held ∧ r = .int .i64 (k : Int) ∧ J ((cont held L).take k) wr ∧ RC wr R G room first held L ∧ wr.cell? ⟨Bn, 0, none⟩ = some (.pointer (some ⟨R, 0, none⟩)))
    (fun r _ => held - (intOf r).toNat)
  case atStart =>
    exact ⟨0, Nat.zero_le _, rfl, h0, HL.out, HX.out⟩
  case round =>
    obtain ⟨k, hk, rfl, hJk, hLk, hck⟩ := hrel
    have HJk := Lib.hid hJk
    have HLk := Lib.hid hLk
    have HK0 := Lib.hid hck
    have hcc := hck
    clear hJk hLk hc hck
    by_cases hlt : k < held
    · have hg0 := HLk.out.cs k (by omega)
      have hg1 := HLk.out.ct k (by omega)
      have HP := Lib.hid (place_any HLk.out k (by omega))
      have HT := Lib.hid (cont_take held k L hlt)
      have HPr := Lib.hid (cont_prefix held k L hlt)
      generalize at' room first k * 2 = a at hg0 hg1 HP
      generalize L k = x at hg0 hg1 HT HPr
      gi_wp2_with (gi_at_call 32; refine (callsIn_wide.2 HP.out).mono ?_; rintro e w' ⟨rfl, nq, rfl⟩; obtain ⟨fn, tmps, assign, body, hy, hR⟩ := HY.out ((cont held L).take k) x (wr.drewN nq) (HJ.out _ _ _ HJk.out ((Ch.refl [] wr).drewN nq)) HPr.out; unfold tv at hy)
      refine hR.mono ?_
      rintro e W3 (⟨rfl, hJ3, hk3⟩ | ⟨rfl, hJx3⟩)
      · have HK := Lib.hid hk3
        clear hk3
        gi_wp2
        go_roundw
        case rel =>
          exact ⟨k + 1, by omega, by go_num, by rw [HT.out]; exact hJ3, (HLk.out.drewN nq).keep HK.out sR sG, HK.out.cell sB HK0.out⟩
        case measure => simp [intOf]; omega
      · gi_wp2
        refine bodyPost_ret (results_none rfl _ _ _) rfl ?_
        exact ⟨⟨_, rfl⟩, .inr ⟨_, HPr.out, hJx3⟩⟩
    · gi_wp2
      go_end0
      obtain rfl : k = held := by omega
      exact ⟨⟨_, rfl⟩, .inl ⟨_, rfl, by have := HJk.out; rwa [cont_full] at this⟩⟩

theorem things_stops (n : Nat) {Bn R G room first held : Nat} {L : Nat → Th} {S : Nat → Prop} (sB : S Bn) (sR : S R) (sG : S G) (w : World)
    (hb : w.cell? ⟨Bn, 0, none⟩ = some (.pointer (some ⟨R, 0, none⟩))) (hL : RC w R G room first held L) :
    SeqP Fence.wide n Try.prog 39 #[.pointer (some ⟨Bn, 0, none⟩)] (fun x : Th => #[tv x]) (Ch []) (Keep S) (fun ys _ => ys = cont held L) (fun pre => pre <+: cont held L) w := fun l J Jx W hW hJ hY h0 =>
  things1_in n l Bn R G room first held L S sB sR sG J Jx hJ hY W ((hW.cell (p := ⟨Bn, 0, none⟩) (cell_lt hb)).trans hb) (hL.same (hW.block R (cell_lt hL.c0)) (hW.block G (cell_lt (hL.cs 0 (by have := hL.r1; omega))))) h0
end Go.Proofs.Ytnnliimjemmekaa.rC
