/-
  An order of keys of int: its keys, one by one.
-/
import Derived.Test.YtediabcgeghogaaOIE
import Derived.Test.YtediabcgeghogaaOrL
namespace Go.Proofs.Ytediabcgeghogaa.oI
open Go.RowKit Go.Maps Go.Sort Go.Shelf

attribute [local go_sem] Oper.semAt_some

/-- An order that may be nil. -/
def OG (w : World) (p : Option Addr) (L : List Ent) : Prop := (p = none ∧ L = []) ∨ ∃ R M room n, p = some ⟨R, 0, none⟩ ∧ OR w R M room n L
theorem OG.quiet {w w' : World} {p : Option Addr} {L : List Ent} (h : OG w p L) (hc : Ch [] w w') : OG w' p L := by
  rcases h with h | ⟨R, M, room, n, rfl, h⟩
  · exact .inl h
  · exact .inr ⟨R, M, room, n, rfl, h.quiet hc⟩
theorem OG.le {w : World} {p : Option Addr} {L : List Ent} (h : OG w p L) : L.length ≤ 64 := by
  rcases h with ⟨_, rfl⟩ | ⟨R, M, room, n, rfl, h⟩
  · simp
  · exact Nat.le_trans h.hl h.hr.2
theorem OG.len {w : World} {p : Option Addr} {L : List Ent} (h : OG w p L) : Calls Try.prog 15 #[.pointer p] w fun e w' => e = .returned (.int .i64 (L.length : Int)) ∧ w' = w := by
  rcases h with ⟨rfl, rfl⟩ | ⟨R, M, room, n, rfl, h⟩
  · exact len_nil w
  · exact len_any h
theorem OG.gath {w : World} {p : Option Addr} {L : List Ent} (h : OG w p L) : Calls Try.prog 32 #[.pointer p] w fun r w' => ∃ a cap, r = .returned (.slice a L.length cap) ∧ w'.ownsRow w.heap.size 62 2 (.slice a L.length cap) L.length (L.flatMap encE) ∧ Ch [] w w' := by
  rcases h with ⟨rfl, rfl⟩ | ⟨R, M, room, n, rfl, h⟩
  · refine (gath_nil w).mono ?_
    rintro e w' ⟨rfl, rfl⟩
    exact ⟨none, 0, rfl, ⟨rfl, .inl ⟨rfl, rfl⟩⟩, Ch.refl _ _⟩
  · refine (gath_any h).mono ?_
    rintro e w' ⟨g, cap, rfl, hr, hb⟩
    exact ⟨_, cap, rfl, hr, Ch.of_below hb⟩

theorem keys_in (n : Nat) (p : Option Addr) (w : World) :
    CallsIn Fence.wide n Try.prog 27 #[.pointer p] w fun e w' => e = .returned (.func (.func 31) #[] #[.pointer (some ⟨w.heap.size, 0, none⟩)]) ∧ w' = w.alloc (.cells #[.pointer p] 23) := by
  refine callsIn_of_wp Try.func27 rfl trivial ?_ rfl
  simp only [Try.ntmps27, List.size_toArray, List.length_cons, List.length_nil, Nat.reduceAdd, Nat.reduceSub, Array.replicate_succ, Array.replicate_zero, List.push_toArray, List.append_toArray, List.nil_append, List.cons_append]
  gi_wp2
  go_ret
  exact ⟨rfl, rfl⟩

theorem ks_take (L : List Ent) {k : Nat} {e : Ent} (h : L[k]? = some e) : (ks L).take (k + 1) = (ks L).take k ++ [e.k] := by
  obtain ⟨hlt, rfl⟩ := List.getElem?_eq_some_iff.1 h
  rw [List.take_succ_eq_append_getElem (by rw [show (ks L).length = L.length by simp [ks]]; exact hlt)]
  simp [ks]
theorem row_cells {w : World} {D : Nat} {v : Value} {L : List Ent} (h : w.ownsRow D 62 2 v L.length (L.flatMap encE)) {k : Nat} {e : Ent} (hk : L[k]? = some e) :
    ∃ g cap, v = .slice (some ⟨g, 0, none⟩) L.length cap ∧ w.cell? ⟨g, k * 2, none⟩ = some (kv e.k) ∧ w.cell? ⟨g, k * 2 + 1, none⟩ = some (.int .u64 (e.t : Int)) := by
  obtain ⟨hlt, he⟩ := List.getElem?_eq_some_iff.1 hk
  letI : Inhabited Ent := ⟨e⟩
  have h0 := flat_at encE_two L (k * 2) (by omega)
  have h1 := flat_at encE_two L (k * 2 + 1) (by omega)
  rw [show k * 2 / 2 = k by omega, show k * 2 % 2 = 0 by omega, getElem!_pos L k hlt, he] at h0
  rw [show (k * 2 + 1) / 2 = k by omega, show (k * 2 + 1) % 2 = 1 by omega, getElem!_pos L k hlt, he] at h1
  rcases h.2 with ⟨_, h2⟩ | ⟨g, cap, cur, rfl, _⟩
  · omega
  · exact ⟨g, cap, rfl, by rw [World.ownsRow.cellAt h (k * 2) (by omega)]; exact h0, by rw [World.ownsRow.cellAt h (k * 2 + 1) (by omega)]; exact h1⟩

set_option maxRecDepth 100000 in
set_option maxHeartbeats 1000000 in
theorem keys1_in (n l Bn : Nat) (p : Option Addr) (L : List Ent) (J Jx : List K → World → Prop) (hJ : ∀ pre W W', J pre W → Ch [] W W' → J pre W')
    (hY : ∀ pre x W, J pre W → pre ++ [x] <+: ks L → YieldAt Fence.wide (n - 1) Try.prog l #[kv x] W fun e W' => (e = .returned (.bool true) ∧ J (pre ++ [x]) W' ∧ KpT 62 W W') ∨ (e = .returned (.bool false) ∧ Jx (pre ++ [x]) W'))
    (W : World) (hb : W.cell? ⟨Bn, 0, none⟩ = some (.pointer p)) (hO : OG W p L) (h0 : J [] W) :
    CallsIn Fence.wide n Try.prog 31 #[.func (.yield l) #[] #[], .pointer (some ⟨Bn, 0, none⟩)] W fun e W' => (∃ v, e = .returned v) ∧
      ((∃ ys, ys = ks L ∧ J ys W') ∨ (∃ pre, pre <+: ks L ∧ Jx pre W')) := by
  have HY := Lib.hid hY
  have HJ := Lib.hid hJ
  have HG := Lib.hid hO.gath
  have HLe := Lib.hid hO.le
  obtain ⟨m, hm⟩ : ∃ m, m = L.length := ⟨_, rfl⟩
  have HM := Lib.hid hm
  have H0 := Lib.hid h0
  rw [← hm] at HG HLe
  clear hY hJ hO hm h0
  refine callsIn_of_wp Try.func31 rfl trivial ?_ rfl
  simp only [Try.ntmps31, List.size_toArray, List.length_cons, List.length_nil, Nat.reduceAdd, Nat.reduceSub, Array.replicate_succ, Array.replicate_zero, List.push_toArray, List.append_toArray, List.nil_append, List.cons_append]
  have hw : ∀ f, Fence.wide.fn f := fun _ => trivial
  have hd : Fence.wide.depth = none := rfl
  gi_wp2_with (first | (gi_at_call 32; refine (callsIn_wide.2 HG.out).mono ?_; rintro e w1 ⟨a, cap, rfl, hrow, hc⟩; have HR := Lib.hid hrow; have HC := Lib.hid hc; clear hrow hc) | fail)
  have hm64 := HLe.out
  gi_loopw [8] (fun r wr => ∃ k : Nat, k ≤ m ∧ r = .int .i64 (k : Int) ∧ J ((ks L).take k) wr ∧ wr.ownsRow W.heap.size 62 2 (.slice a m cap) m (L.flatMap encE))
    (fun r _ => m - (intOf r).toNat)
  case atStart =>
    exact ⟨0, Nat.zero_le _, rfl, HJ.out _ _ _ H0.out HC.out, HR.out⟩
  case round =>
    obtain ⟨k, hk, rfl, hJk, hrow⟩ := hrel
    have HJk := Lib.hid hJk
    have HRk := Lib.hid hrow
    clear hJk hb
    by_cases hlt : k < m
    · obtain ⟨e, he⟩ : ∃ e, L[k]? = some e := ⟨_, List.getElem?_eq_getElem (by rw [← HM.out]; exact hlt)⟩
      have hrow' := hrow
      rw [HM.out] at hrow'
      obtain ⟨g, cap', ev, hc0, hc1⟩ := row_cells hrow' he
      obtain ⟨rfl, rfl⟩ : a = some ⟨g, 0, none⟩ ∧ cap = cap' := by simpa [HM.out] using ev
      have HT := Lib.hid (ks_take L he)
      have HPr := Lib.hid (show (ks L).take k ++ [e.k] <+: ks L by rw [← ks_take L he]; exact List.take_prefix _ _)
      clear hrow hrow' he ev
      have hb0 : (0 : Int) ≤ (k : Int) := by omega
      have hb1 : (k : Int) < (m : Int) := by omega
      have hal : Ch [] wr (wr.alloc (.cells #[kv e.k, .int .u64 (e.t : Int)] 62)) := (Ch.refl [] wr).alloc _
      obtain ⟨fn, tmps, assign, body, hy, hR⟩ := HY.out ((ks L).take k) e.k (wr.alloc (.cells #[kv e.k, .int .u64 (e.t : Int)] 62)) (HJ.out _ _ _ HJk.out hal) HPr.out
      have HRk2 := Lib.hid (HRk.out.alloc (.cells #[kv e.k, .int .u64 (e.t : Int)] 62))
      clear hal
      gi_wp2
      refine hR.mono ?_
      rintro e' W3 (⟨rfl, hJ3, hk3⟩ | ⟨rfl, hJx3⟩)
      · have HK := Lib.hid hk3
        clear hk3
        gi_wp2
        go_roundw
        case rel =>
          exact ⟨k + 1, by omega, by go_num, by rw [HT.out]; exact hJ3, own_kpT HRk2.out HK.out⟩
        case measure => simp [intOf]; omega
      · gi_wp2
        refine bodyPost_ret (results_none rfl _ _ _) rfl ?_
        exact ⟨⟨_, rfl⟩, .inr ⟨_, HPr.out, hJx3⟩⟩
    · gi_wp2
      go_end0
      obtain rfl : k = m := by omega
      exact ⟨⟨_, rfl⟩, .inl ⟨_, rfl, by have := HJk.out; rwa [List.take_of_length_le (by rw [show (ks L).length = L.length by simp [ks], ← HM.out]; exact Nat.le_refl _)] at this⟩⟩

theorem keys_stops (n : Nat) {Bn : Nat} {p : Option Addr} {L : List Ent} (w : World) (hb : w.cell? ⟨Bn, 0, none⟩ = some (.pointer p)) (hO : OG w p L) :
    SeqP Fence.wide n Try.prog 31 #[.pointer (some ⟨Bn, 0, none⟩)] (fun x : K => #[kv x]) (Ch []) (KpT 62) (fun ys => ys = ks L) (fun pre => pre <+: ks L) w := fun l J Jx W hW hJ hY h0 =>
  keys1_in n l Bn p L J Jx hJ hY W ((hW.cell (p := ⟨Bn, 0, none⟩) (cell_lt hb)).trans hb) (hO.quiet (Ch.of_below hW)) h0
end Go.Proofs.Ytediabcgeghogaa.oI
