/-
  Several texts in one: Nil frames. · Rows of things of the call's own: Tos.
-/
import Derived.Test.YtpbdmlipdfdblaaDoorMgH
import Derived.Test.YtpbdmlipdfdblaaDoorMgB
namespace Go.Proofs.YtpbdmlipdfdblaaDoor
open Go.RowKit Go.BigFrame

attribute [local go_sem] Oper.semAt_some

theorem do_nil (x : I5) (w : World) : Calls Tryd.prog 78 #[.pointer none, iv x] w fun e w' => e = .returned (.int .i64 6) ∧ Ch [] w w' := by
  obtain ⟨op, d, s, o, i⟩ := x
  unfold iv
  have HC := Lib.hid (((Ch.refl [] w).alloc (.cells #[.pointer none] 81)).alloc (.cells #[.int .i64 op, .int .i64 d, .int .i64 s, .int .i64 o, .int .i64 i] 59))
  go_enter Tryd.func78, Tryd.ntmps78
  go_wp2_with fail
  go_ret
  exact ⟨rfl, HC.out⟩
theorem jumps_nil (x : I5) (w : World) : Calls Tryd.prog 77 #[.pointer none, iv x] w fun e w' => e = .returned (.tuple #[.bool false, .int .i64 6]) ∧ Ch [] w w' := by
  obtain ⟨op, d, s, o, i⟩ := x
  unfold iv
  have HC := Lib.hid ((Ch.refl [] w).alloc (.cells #[.int .i64 op, .int .i64 d, .int .i64 s, .int .i64 o, .int .i64 i] 59))
  go_enter Tryd.func77, Tryd.ntmps77
  go_wp2_with fail
  go_ret2
  exact ⟨rfl, HC.out⟩
theorem read_nil (a n : Int) (w : World) : Calls Tryd.prog 44 #[.pointer none, .int .i64 a, .int .i64 n] w fun e w' => e = .returned (.tuple #[.slice none 0 0, .int .i64 6]) ∧ w = w' := by
  go_enter Tryd.func44, Tryd.ntmps44
  go_wp2_with fail
  go_ret2
  exact ⟨rfl, rfl⟩
theorem write_nil (a : Int) (s : Option Addr) (n c : Nat) (w : World) : Calls Tryd.prog 43 #[.pointer none, .int .i64 a, .slice s n c] w fun e w' => e = .returned (.int .i64 6) ∧ w = w' := by
  go_enter Tryd.func43, Tryd.ntmps43
  go_wp2_with fail
  go_ret
  exact ⟨rfl, rfl⟩
theorem args_nil (w : World) : Calls Tryd.prog 59 #[.pointer none] w fun e w' => e = .returned (.agg z25) ∧ Ch [] w w' := by
  obtain ⟨W, hW⟩ : ∃ W, w.alloc (.cells z25 42) = W := ⟨_, rfl⟩
  have hth : W.there w.heap.size 0 25 := by rw [← hW]; exact there_new w z25 42
  have hc : Ch [] w W := by rw [← hW]; exact (Ch.refl [] w).alloc _
  have HR := Lib.hid (load_z25 (World.rangeAt_setCells_same W w.heap.size 0 z25.toList hth))
  have HC := Lib.hid (hc.fresh (chCells W w.heap.size z25.toList 0) (by simp))
  have HT := Lib.hid hth
  have HW := Lib.hid hW
  clear hth hc hW
  go_enter Tryd.func59, Tryd.ntmps59
  go_wp2_with (first
    | ((with_reducible show wpList _ _ _ (Oper.mk _ (Op.alloc 42) _ _ _ _ :: _) _ _); refine wpList_allocZ z25_zero rfl (by rfl) ?_; rw [HW.out])
    | ((with_reducible show wpList _ _ _ (Oper.mk _ (Op.build 42 _) _ _ _ _ :: _) _ _); refine wpList_buildZ z25_built rfl rfl ?_)
    | ((with_reducible show wpList _ _ _ (Oper.mk _ (Op.store 42 _ _) _ _ _ _ :: _) _ _); refine wpList_write25 rfl HT.out (by rfl) (by rfl) (by rfl) ?_)
    | fail)
  refine bodyPost_ret (v := .agg z25) ?_ rfl ?_
  · exact results_one rfl rfl HR.out
  · exact ⟨rfl, HC.out⟩
end Go.Proofs.YtpbdmlipdfdblaaDoor

namespace Go.Proofs.YtpbdmlipdfdblaaDoor
open Go.RowKit Go.BigFrame

attribute [local go_sem] Oper.semAt_some

/-- Things in a row of the call's own. -/
def VR (w : World) (lo : Nat) (v : Value) (L : List V5) : Prop := w.ownsRow lo 41 5 v L.length (L.flatMap vl)
theorem flats_at (L : List V5) (k : Nat) (hk : k < L.length) (j : Nat) (hj : j < 5) : (L.flatMap vl)[k * 5 + j]? = (vl L[k])[j]? := by
  induction L generalizing k with
  | nil => simp at hk
  | cons x l ih =>
    rw [List.flatMap_cons]
    match k, hk with
    | 0, _ =>
      rw [List.getElem?_append_left (by rw [vl_len]; omega)]
      simp
    | k + 1, hk =>
      rw [List.getElem?_append_right (by rw [vl_len]; omega), vl_len, show (k + 1) * 5 + j - 5 = k * 5 + j by omega]
      exact ih k (by simpa using hk)
theorem VR.form {w : World} {lo : Nat} {v : Value} {L : List V5} (h : VR w lo v L) : ∃ a cap, v = .slice a L.length cap ∧ ValsAt w a L ∧ (a = none → L.length = 0 → cap = 0) ∧ ∀ y, a = some y → lo ≤ y.block ∧ y.block < w.heap.size := by
  unfold VR at h
  rcases h.2 with ⟨rfl, h0⟩ | ⟨g, cp, cur, rfl, hb, hg, _⟩
  · refine ⟨none, 0, by rw [h0], .inl (List.eq_nil_of_length_eq_zero h0), fun _ _ => rfl, fun y e => by cases e⟩
  · refine ⟨some ⟨g, 0, none⟩, cp, rfl, .inr ⟨g, 0, rfl, fun i hi => ?_⟩, (fun e => by cases e), fun y e => ?_⟩
    · have hc := h.cells rfl
      refine At5.of fun j u hj => ?_
      have h5 : j < 5 := by have := (List.getElem?_eq_some_iff.1 hj).1; rwa [vl_len] at this
      have := hc (i * 5 + j) u (by rw [flats_at L i hi j h5]; exact hj)
      rw [addr_add] at this
      rwa [show 0 + i * 5 + j = 0 + (i * 5 + j) by omega]
    · cases e
      exact ⟨hb, (Array.getElem?_eq_some_iff.1 hg).1⟩
theorem VR.nil (w : World) (lo : Nat) : VR w lo (.slice none 0 0) [] := World.ownsRow_nil _ _ _ _
theorem VR.ch {w w' : World} {S : List Nat} {lo : Nat} {v : Value} {L : List V5} (h : VR w lo v L) (hc : Ch S w w') (hS : ∀ k ∈ S, k < lo) : VR w' lo v L := own_ch h hc hS
theorem VR.snoc {w : World} {lo : Nat} {v : Value} {L : List V5} {x : V5} (h : w.ownsRow lo 41 5 v (L.length + 1) (L.flatMap vl ++ vl x)) : VR w lo v (L ++ [x]) := by
  unfold VR
  simpa using h
theorem cells_v5 (w : World) (x : V5) (t : TypeId) : ∀ j u, (vl x)[j]? = some u → (w.alloc (.cells #[.bool x.r, .int .i64 x.m, .int .i64 x.s, .int .i64 x.g, .int .u64 (x.n : Int)] t)).cell? ((⟨w.heap.size, 0, none⟩ : Addr).add j) = some u := by
  intro j u hj
  rw [addr_add]
  exact (B5.new w x t).a.range j u hj
theorem ValsAt.at {w : World} {b off : Nat} {L : List V5} (h : ∀ i (hi : i < L.length), At5 w b (off + i * 5) L[i]) {k : Nat} (hk : k < L.length) : At5 w b (off + k * 5) (L.getD k (num 0)) := by
  have := h k hk
  rwa [show L[k] = L.getD k (num 0) by simp [hk]] at this
theorem take_at {L : List V5} {k : Nat} (hk : k < L.length) : L.take (k + 1) = L.take k ++ [L.getD k (num 0)] := by
  rw [List.take_succ_eq_append_getElem hk]
  simp [hk]

set_option maxRecDepth 10000 in
set_option maxHeartbeats 4000000 in
theorem tos_any {w : World} {a : Option Addr} {n cap : Nat} {L : List V5} (hL : L.length = n) (hn : n ≤ 1000) (hV : ValsAt w a L) :
    Calls Tryd.prog 9 #[.slice a n cap] w fun e w' => ∃ v, e = .returned v ∧ VR w' w.heap.size v L ∧ Ch [] w w' := by
  obtain ⟨i0, hI, hz0, hz1, hz2⟩ : ∃ i : TypeInfo, Tryd.prog.info? 41 = some i ∧ i.zero = some (.agg #[.bool false, .int .i64 0, .int .i64 0, .int .i64 0, .int .u64 0]) ∧ i.size = 5 ∧ i.bytes = 40 := by
    refine ⟨_, rfl, by kernel_rfl, by kernel_rfl, by kernel_rfl⟩
  have HL := Lib.hid hL
  have HV := Lib.hid hV
  have HN := Lib.hid hn
  clear hL hV hn
  go_enter Tryd.func9, Tryd.ntmps9
  go_wp2_with fail
  go_loopw [3, 4] (fun v i wr => ∃ j : Nat, i = .int .i64 (j : Int) ∧ j ≤ n ∧ VR wr w.heap.size v (L.take j) ∧ Ch [] w wr) (fun _ i _ => n - (intOf i).toNat)
  case atStart => exact ⟨0, rfl, Nat.zero_le _, VR.nil _ _, Ch.refl _ _⟩
  case round =>
    obtain ⟨j, rfl, hjn, hr, hc⟩ := hrel
    have HR := Lib.hid hr
    have HC := Lib.hid hc
    clear hr hc
    by_cases h1 : j < n
    · have h1' : (j : Int) < (n : Int) := by omega
      have hjL : j < L.length := by rw [HL.out]; exact h1
      rcases HV.out with h0 | ⟨b, off, rfl, hk⟩
      · exfalso; rw [h0] at hjL; simp at hjL
      · obtain ⟨c0, c1, c2, c3, c4⟩ := (ValsAt.at hk hjL).ch HC.out (by simp)
        have HS := Lib.hid (take_at hjL)
        have hlen : (L.take j).length = j := by rw [List.length_take]; omega
        have HLen := Lib.hid hlen
        have HTo := Lib.hid (fun w => to5_any (L.getD j (num 0)) w)
        generalize L.getD j (num 0) = x at *
        unfold vv at HTo
        have HR1 := HR.out
        unfold VR at HR1
        rw [hlen] at HR1
        have HR2 := Lib.hid HR1
        obtain ⟨av, ac, rfl⟩ := own_form HR1
        have hjw : IntKind.i64.wrap ((j : Int) + 1) = ((j + 1 : Nat) : Int) := by rw [IntKind.wrap_i64]; have := HN.out; omega
        have HJ := Lib.hid (show j ≤ 1000 by have := HN.out; omega)
        clear HR1 hlen hk hjL HV h1
        go_wp2_with fail
        with_reducible refine (HTo.out _).mono ?_
        rintro e w1 ⟨rfl, hc1⟩
        have HC1 := Lib.hid (HC.out.trans hc1)
        have HR3 := Lib.hid (own_ch HR2.out hc1 (by simp))
        clear hc1 c0 c1 c2 c3 c4
        go_wp2_with (at_builtin; go_must (refine wpList_append_own _ rfl _ _ 33 rfl w.heap.size 41 i0 (.agg #[.bool false, .int .i64 0, .int .i64 0, .int .i64 0, .int .u64 0]) 5 40 Tryd.underlying33 hI hz0 hz1 hz2 rfl (by decide) _ j ((L.take j).flatMap vl) rfl (HR3.out.alloc _) ⟨w1.heap.size, 0, none⟩ 1 1 (vl x) rfl rfl (cells_v5 w1 x _) (vl_one x) (by unfold maxLen; have := HJ.out; omega) (by have := HJ.out; omega) (by have := HC1.out.size; simp; omega) ?_); intro v3 w3 hown3 hgrow3 hnil3; refine Hid.out ?_)
        refine Lib.hid ?_
        have HC3 := Lib.hid (own_new (HC1.out.alloc _) hgrow3 (Nat.le_refl _) (HR3.out.alloc _))
        have HR4 := Lib.hid (show VR w3 w.heap.size v3 (L.take (j + 1)) by rw [HS.out]; exact VR.snoc (by rw [HLen.out]; exact hown3))
        obtain ⟨av3, ac3, rfl⟩ := own_form hown3
        clear hown3 hgrow3 hnil3
        go_wp2_with fail
        go_roundw
        case rel => exact ⟨j + 1, rfl, by omega, HR4.out, HC3.out⟩
        case measure => simp [intOf]; omega
    · have h1' : ¬ (j : Int) < (n : Int) := by omega
      have he : L.take j = L := List.take_of_length_le (by have := HL.out; omega)
      have HR1 := Lib.hid (he ▸ HR.out)
      obtain ⟨av, ac, hf⟩ := own_form HR1.out
      obtain ⟨q, hq⟩ : ∃ q, q = L.length := ⟨_, rfl⟩
      rw [← hq] at hf
      subst hf
      clear he h1 hq
      go_wp2_with fail
      go_ret
      exact ⟨_, rfl, HR1.out, HC.out⟩
end Go.Proofs.YtpbdmlipdfdblaaDoor
